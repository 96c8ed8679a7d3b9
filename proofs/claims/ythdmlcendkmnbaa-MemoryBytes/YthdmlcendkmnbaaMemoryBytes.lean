/-
  For every list of words, every place and every number, the law MemoryBytes answers true: a word's four bytes are it, and a byte that is put changes no other one; no conditions.
-/
import Derived.Test.YthdmlcendkmnbaaRows
import Derived.Test.YthdmlcendkmnbaaMargs
import Derived.WalkKit
import Derived.ProofKit
import Derived.Below
import Derived.Test.YthdmlcendkmnbaaMbyte
namespace Go.Proofs.Ythdmlcendkmnbaa.memoryBytes
open Go.ChangeShapes Go.WideShapes Go.ChangeAt Go.RowKit Go.Proofs.Ythdmlcendkmnbaa.Mem Go.Proofs.Ythdmlcendkmnbaa.Bits
set_option linter.unusedVariables false

set_option maxHeartbeats 2000000 in

theorem walk (w : World) (o0 : Option Addr) (n0 c0 : Nat) (x0 : List Int) (W0 : Wl w o0 n0 c0 x0) (a1 : Int) (w1 : (Lit.int .u32 a1).wf = true) (a2 : Int) (w2 : (Lit.int .u32 a2).wf = true) :
    Calls Try.prog 4 #[.slice o0 n0 c0, .int .u32 a1, .int .u32 a2] w fun e w' => e = .returned (.bool true) ∧ Below w.heap.size w w' := by
  obtain ⟨p0, p1⟩ := bounds_u32 w1
  obtain ⟨v0, v1⟩ := bounds_u32 w2
  obtain ⟨B, hBB⟩ : ∃ B, B = w.heap.size := ⟨_, rfl⟩
  have HBB : Hid (B = w.heap.size) := hBB
  have HB : Hid (Below B w w) := Below.refl _ _
  have HW : Hid (Wl w o0 n0 c0 x0) := W0
  have hmax := W0.max
  unfold maxLen at hmax
  rw [← hBB]
  clear hBB W0
  by_cases hn : 1 ≤ n0 ∧ n0 ≤ 3000
  · obtain ⟨hn1, hn2⟩ := hn
    obtain ⟨K, hK⟩ : ∃ K, a1 % ((n0 : Int) * 4) = K := ⟨_, rfl⟩
    have k0 : 0 ≤ K := by rw [← hK]; exact Int.emod_nonneg _ (by omega)
    have k1 : K < (n0 : Int) * 4 := by rw [← hK]; exact Int.emod_lt_of_pos _ (by omega)
    obtain ⟨q, hq⟩ : ∃ q : Nat, K / 4 = q := ⟨(K / 4).toNat, by omega⟩
    have hql : q < x0.length := by rw [HW.out.len]; omega
    have eT : thB x0 K = true := by unfold thB; rw [HW.out.len]; simp; omega
    obtain ⟨Y, b0, b1, b2, b3, BT⟩ := bts x0 HW.out.rng q K a2 hql (by omega) (by omega) (by omega)
    obtain ⟨ys, hys⟩ : ∃ ys, ys = pbL x0 K a2 := ⟨_, rfl⟩
    have eP : Hid (pbL x0 K a2 = ys) := hys.symm
    rw [← hys] at BT
    obtain ⟨P, hP⟩ : ∃ P : Int, P = 4 * q := ⟨_, rfl⟩
    rw [← hP] at BT
    obtain ⟨eL, eL2, f0, f1, f2, f3, t0, t1, t2, t3, g0, g1, g2, g3, hs, m0, m1, m2, m3⟩ := BT
    have X0 := rng_at HW.out.rng q
    obtain ⟨ad, rfl⟩ : ∃ ad, o0 = some ad := by
      cases o0 with
      | none => have := HW.out.src.1 rfl; rw [this] at hql; simp at hql
      | some ad => exact ⟨ad, rfl⟩
    have hcell : w.cell? (ad.add q) = some (wd (at0 x0 q)) := HW.out.src.2 ad rfl q _ (by simp [at0, hql])
    obtain ⟨X, hX⟩ : ∃ X, at0 x0 q = X := ⟨_, rfl⟩
    rw [hX] at hcell X0 m0 m1 m2 m3
    have HC : Hid (w.cell? (ad.add q) = some (wd X)) := hcell
    have HAD : Hid ((ad.add q).block < B) := by rw [HBB.out]; exact World.block_lt_of_cell? w _ hcell
    have so := or_all b0 b1 b2 b3 g0 g1 g2 g3
    rw [hs] at so
    have l0 : decide (255 < b0) = false := by simp; omega
    have l1 : decide (255 < b1) = false := by simp; omega
    have l2 : decide (255 < b2) = false := by simp; omega
    have l3 : decide (255 < b3) = false := by simp; omega
    have av := and_255 a2 (by omega) (by omega)
    have ax0 := and_255 X (by omega) (by omega)
    have ax1 := and_255 (X / 256) (by omega) (by omega)
    have ax2 := and_255 (X / 65536) (by omega) (by omega)
    have ax3 := and_255 (X / 16777216) (by omega) (by omega)
    have hKt : a1.tmod ((n0 : Int) * 4) = K := by rw [Int.tmod_eq_emod_of_nonneg p0]; exact hK
    have hz : ((n0 : Int) * 4 == 0) = false := by simp; omega
    have hz1 : ((n0 : Int) == 0) = false := by simp; omega
    have hz2 : decide ((3000 : Int) < n0) = false := by simp; omega
    have hq4 : P / 4 = (q : Int) := by omega
    have hqn : (q : Int) < n0 := by have := HW.out.len; omega
    have HPK : Hid (P = K - K % 4) := by show _ = _; omega
    have hPb : 0 ≤ P ∧ P < 12000 := by omega
    clear hP
    have hr : K % 4 = 0 ∨ K % 4 = 1 ∨ K % 4 = 2 ∨ K % 4 = 3 := by omega
    clear hys hcell hX hs hql
    rcases hr with hr | hr | hr | hr
    · obtain rfl : P = K := by have := HPK.out; omega
      have m0 : (b0 != a2 % 256) = false := by simp; omega
      have m1 : (b1 != X / 256 % 256) = false := by simp; omega
      have m2 : (b2 != X / 65536 % 256) = false := by simp; omega
      have m3 : (b3 != X / 16777216 % 256) = false := by simp; omega
      go_enter Try.func4, Try.ntmps4
      go_wp2_with (first | (at_builtin; refine wpList_append_src (w0 := w) rfl (.tmp 27) (.tmp 28) rfl w.heap.size rfl (heap_alloc_new _ _) _ _ _ rfl x0 (HW.out.src.kept (World.grownBy_alloc _ _ _)) HW.out.rng HW.out.len HW.out.none (by omega) w.heap.size (Nat.le_refl _) ((Below.refl _ _).alloc (Nat.le_refl _) _) ?_; intro bb cc w1 hbb ha hw; have HA := hid ha; rw [← HBB.out] at hw; have HB1 := hid hw; clear ha hw) | (go_at_call 8; refine (new_n HA.out.src HA.out.rng HW.out.len (by omega)).mono ?_; rintro e w2 ⟨a, b, rfl, hg, hm, hab, hbb2⟩; have hbb3 := Nat.le_trans (bz HB1 HBB) hbb2; have HM := hid hm.ob; clear hm; have HB2 := bn HB1 HBB hg; clear hg) | (go_at_call 19; refine (putb_ob HM.out _ _ (by omega) (by omega) (by omega) (by omega)).mono ?_; rw [eT]; rintro e w3 ⟨rfl, hg, ho⟩; rw [eP.out] at ho; have HO := hid ho; have HB3 := bs HB2 HBB hbb3 hg; clear hg ho) | (go_at_call 13; refine (load_ob HO.out _ (by omega) (by omega)).mono ?_; rw [eL, eL2]; rintro e w' ⟨rfl, rfl⟩))
      refine wp_loop_rounds 5 ?_
      repeat (rw [rounds_succ]; go_wp2_with (first | (go_at_call 17; refine (byte_v HO.out _ (by omega) (by omega)).mono ?_; (first | rw [f0, t0] | rw [f1, t1] | rw [f2, t2] | rw [f3, t3]); rintro e wb ⟨rfl, hg⟩; replace HO := hid (HO.out.kept hg); replace HB3 := bn HB3 HBB hg; clear hg; have hcw := (HB3.out.cell HAD.out).trans HC.out) | (go_at_call 7; refine (wakes_any _).mono ?_; rintro e w6 ⟨rfl, hg⟩; have HB8 := bn HB3 HBB hg; clear hg)))
      all_goals go_ret
      all_goals exact ⟨rfl, HB8.out⟩
    · have hP' : K - 1 = P := by have := HPK.out; omega
      have m0 : (b0 != X % 256) = false := by simp; omega
      have m1 : (b1 != a2 % 256) = false := by simp; omega
      have m2 : (b2 != X / 65536 % 256) = false := by simp; omega
      have m3 : (b3 != X / 16777216 % 256) = false := by simp; omega
      go_enter Try.func4, Try.ntmps4
      go_wp2_with (first | (at_builtin; refine wpList_append_src (w0 := w) rfl (.tmp 27) (.tmp 28) rfl w.heap.size rfl (heap_alloc_new _ _) _ _ _ rfl x0 (HW.out.src.kept (World.grownBy_alloc _ _ _)) HW.out.rng HW.out.len HW.out.none (by omega) w.heap.size (Nat.le_refl _) ((Below.refl _ _).alloc (Nat.le_refl _) _) ?_; intro bb cc w1 hbb ha hw; have HA := hid ha; rw [← HBB.out] at hw; have HB1 := hid hw; clear ha hw) | (go_at_call 8; refine (new_n HA.out.src HA.out.rng HW.out.len (by omega)).mono ?_; rintro e w2 ⟨a, b, rfl, hg, hm, hab, hbb2⟩; have hbb3 := Nat.le_trans (bz HB1 HBB) hbb2; have HM := hid hm.ob; clear hm; have HB2 := bn HB1 HBB hg; clear hg) | (go_at_call 19; refine (putb_ob HM.out _ _ (by omega) (by omega) (by omega) (by omega)).mono ?_; rw [eT]; rintro e w3 ⟨rfl, hg, ho⟩; rw [eP.out] at ho; have HO := hid ho; have HB3 := bs HB2 HBB hbb3 hg; clear hg ho) | (go_at_call 13; refine (load_ob HO.out _ (by omega) (by omega)).mono ?_; rw [eL, eL2]; rintro e w' ⟨rfl, rfl⟩))
      refine wp_loop_rounds 5 ?_
      repeat (rw [rounds_succ]; go_wp2_with (first | (go_at_call 17; refine (byte_v HO.out _ (by omega) (by omega)).mono ?_; (first | rw [f0, t0] | rw [f1, t1] | rw [f2, t2] | rw [f3, t3]); rintro e wb ⟨rfl, hg⟩; replace HO := hid (HO.out.kept hg); replace HB3 := bn HB3 HBB hg; clear hg; have hcw := (HB3.out.cell HAD.out).trans HC.out) | (go_at_call 7; refine (wakes_any _).mono ?_; rintro e w6 ⟨rfl, hg⟩; have HB8 := bn HB3 HBB hg; clear hg)))
      all_goals go_ret
      all_goals exact ⟨rfl, HB8.out⟩
    · have hP' : K - 2 = P := by have := HPK.out; omega
      have m0 : (b0 != X % 256) = false := by simp; omega
      have m1 : (b1 != X / 256 % 256) = false := by simp; omega
      have m2 : (b2 != a2 % 256) = false := by simp; omega
      have m3 : (b3 != X / 16777216 % 256) = false := by simp; omega
      go_enter Try.func4, Try.ntmps4
      go_wp2_with (first | (at_builtin; refine wpList_append_src (w0 := w) rfl (.tmp 27) (.tmp 28) rfl w.heap.size rfl (heap_alloc_new _ _) _ _ _ rfl x0 (HW.out.src.kept (World.grownBy_alloc _ _ _)) HW.out.rng HW.out.len HW.out.none (by omega) w.heap.size (Nat.le_refl _) ((Below.refl _ _).alloc (Nat.le_refl _) _) ?_; intro bb cc w1 hbb ha hw; have HA := hid ha; rw [← HBB.out] at hw; have HB1 := hid hw; clear ha hw) | (go_at_call 8; refine (new_n HA.out.src HA.out.rng HW.out.len (by omega)).mono ?_; rintro e w2 ⟨a, b, rfl, hg, hm, hab, hbb2⟩; have hbb3 := Nat.le_trans (bz HB1 HBB) hbb2; have HM := hid hm.ob; clear hm; have HB2 := bn HB1 HBB hg; clear hg) | (go_at_call 19; refine (putb_ob HM.out _ _ (by omega) (by omega) (by omega) (by omega)).mono ?_; rw [eT]; rintro e w3 ⟨rfl, hg, ho⟩; rw [eP.out] at ho; have HO := hid ho; have HB3 := bs HB2 HBB hbb3 hg; clear hg ho) | (go_at_call 13; refine (load_ob HO.out _ (by omega) (by omega)).mono ?_; rw [eL, eL2]; rintro e w' ⟨rfl, rfl⟩))
      refine wp_loop_rounds 5 ?_
      repeat (rw [rounds_succ]; go_wp2_with (first | (go_at_call 17; refine (byte_v HO.out _ (by omega) (by omega)).mono ?_; (first | rw [f0, t0] | rw [f1, t1] | rw [f2, t2] | rw [f3, t3]); rintro e wb ⟨rfl, hg⟩; replace HO := hid (HO.out.kept hg); replace HB3 := bn HB3 HBB hg; clear hg; have hcw := (HB3.out.cell HAD.out).trans HC.out) | (go_at_call 7; refine (wakes_any _).mono ?_; rintro e w6 ⟨rfl, hg⟩; have HB8 := bn HB3 HBB hg; clear hg)))
      all_goals go_ret
      all_goals exact ⟨rfl, HB8.out⟩
    · have hP' : K - 3 = P := by have := HPK.out; omega
      have m0 : (b0 != X % 256) = false := by simp; omega
      have m1 : (b1 != X / 256 % 256) = false := by simp; omega
      have m2 : (b2 != X / 65536 % 256) = false := by simp; omega
      have m3 : (b3 != a2 % 256) = false := by simp; omega
      go_enter Try.func4, Try.ntmps4
      go_wp2_with (first | (at_builtin; refine wpList_append_src (w0 := w) rfl (.tmp 27) (.tmp 28) rfl w.heap.size rfl (heap_alloc_new _ _) _ _ _ rfl x0 (HW.out.src.kept (World.grownBy_alloc _ _ _)) HW.out.rng HW.out.len HW.out.none (by omega) w.heap.size (Nat.le_refl _) ((Below.refl _ _).alloc (Nat.le_refl _) _) ?_; intro bb cc w1 hbb ha hw; have HA := hid ha; rw [← HBB.out] at hw; have HB1 := hid hw; clear ha hw) | (go_at_call 8; refine (new_n HA.out.src HA.out.rng HW.out.len (by omega)).mono ?_; rintro e w2 ⟨a, b, rfl, hg, hm, hab, hbb2⟩; have hbb3 := Nat.le_trans (bz HB1 HBB) hbb2; have HM := hid hm.ob; clear hm; have HB2 := bn HB1 HBB hg; clear hg) | (go_at_call 19; refine (putb_ob HM.out _ _ (by omega) (by omega) (by omega) (by omega)).mono ?_; rw [eT]; rintro e w3 ⟨rfl, hg, ho⟩; rw [eP.out] at ho; have HO := hid ho; have HB3 := bs HB2 HBB hbb3 hg; clear hg ho) | (go_at_call 13; refine (load_ob HO.out _ (by omega) (by omega)).mono ?_; rw [eL, eL2]; rintro e w' ⟨rfl, rfl⟩))
      refine wp_loop_rounds 5 ?_
      repeat (rw [rounds_succ]; go_wp2_with (first | (go_at_call 17; refine (byte_v HO.out _ (by omega) (by omega)).mono ?_; (first | rw [f0, t0] | rw [f1, t1] | rw [f2, t2] | rw [f3, t3]); rintro e wb ⟨rfl, hg⟩; replace HO := hid (HO.out.kept hg); replace HB3 := bn HB3 HBB hg; clear hg; have hcw := (HB3.out.cell HAD.out).trans HC.out) | (go_at_call 7; refine (wakes_any _).mono ?_; rintro e w6 ⟨rfl, hg⟩; have HB8 := bn HB3 HBB hg; clear hg)))
      all_goals go_ret
      all_goals exact ⟨rfl, HB8.out⟩
  · have hn' : n0 = 0 ∨ 3000 < n0 := by omega
    rcases hn' with hn | hn
    all_goals
      go_enter Try.func4, Try.ntmps4
      go_wp2_with (go_at_call 7; refine (wakes_any _).mono ?_; rintro e w6 ⟨rfl, hg⟩; have HB8 := bn HB HBB hg; clear hg)
      all_goals go_ret
      all_goals exact ⟨rfl, HB8.out⟩

set_option maxRecDepth 100000 in
theorem lifted (os : Os) (started : os.Started) (H : Type) (enc : TypeId × Value → H) :
    ReturnsInHanded {} Try.checked os 4 .any (Rows.memoryBytesSpec.pre6 enc Try.prog Try.f4 Rows.memoryBytesRow.domain false) (Rows.memoryBytesSpec.post enc Try.prog Try.f4 false true false false) := by
  refine returnsInHanded_of_change (C := Try.checked) own started (by kernel_rfl) Try.func4
    (ChangeSpec.witness6 (enc := enc) (C := Try.checked) false ⟨#[], #[.slice none 0 0, .int .u32 0, .int .u32 0], []⟩ 8 (by kernel_rfl) (by kernel_rfl) (by kernel_rfl) (by kernel_rfl)) ?_
  intro W base args ds gs before hval0 hW hcnd _
  have hval : ∀ (j : Nat) t v, Try.f4.params[j]? = some t → args[j]? = some v → Value.okWide Try.prog W .any base t v := hval0
  have hW' := hW
  obtain ⟨p, q, hA0, hV, rfl, hfz, hnd⟩ := hW
  have hA : DataW.TrodAll enc Try.prog W 0 (fun _ => true) true Try.f4.params.toList args.toList ds p := hA0
  rw [Try.params4] at hA hval
  obtain ⟨v0, vs0, d0, ds0, p0, q0, hargs, rfl, rfl, h0, r0⟩ := trodAll_cons hA
  obtain ⟨v1, vs1, d1, ds1, p1, q1, rfl, rfl, rfl, h1, r1⟩ := trodAll_cons r0
  obtain ⟨v2, vs2, d2, ds2, p2, q2, rfl, rfl, rfl, h2, r2⟩ := trodAll_cons r1
  obtain ⟨rfl, rfl, rfl⟩ := trodAll_nil r2
  obtain rfl : args = #[v0, v1, v2] := by cases args; simp_all
  obtain ⟨rfl, rfl⟩ := trodVars_none hV
  obtain ⟨o0, n0, c0, rfl⟩ := okWide_slice Try.underlying22 (hval 0 22 v0 rfl rfl)
  have k0 := h0
  have lt0 : ∀ x ∈ p0, x.block < W.heap.size := by obtain ⟨m, hm⟩ := k0; exact DataW.trod_lt m _ _ _ hm
  obtain ⟨x0, W0⟩ := open_words h0
  obtain ⟨a1, rfl, rfl, rfl, w1⟩ := open_int Try.underlying34 (hval 1 34 v1 rfl rfl) h1
  obtain ⟨a2, rfl, rfl, rfl, w2⟩ := open_int Try.underlying34 (hval 2 34 v2 rfl rfl) h2
  clear hA0 hval0
  refine (walk W o0 n0 c0 x0 W0 a1 w1 a2 w2).mono fun e W' ⟨he, bel⟩ => ?_
  subst he
  exact ⟨_, rfl, _, _, _, [], _, [], hW', trodAll_mk1 (shut_bool Try.underlying4 _), (trodAll_cons_mk (Below.trod laidOut (by kernel_rfl) (of_decide_eq_true (by kernel_rfl)) k0 bel lt0) (trodAll_cons_mk (shut_int Try.underlying34 w1) (trodAll_cons_mk (shut_int Try.underlying34 w2) trodAll_mk0))), rfl, bel.frame _, fun h => by cases h⟩

theorem proved : Rows.MemoryBytesSaid :=
  OpenClaim.holds_of_wide 4 Try.f4 rfl rfl rfl rfl rfl rfl rfl ⟨rfl, rfl, rfl, rfl, rfl⟩ rfl rfl rfl rfl rfl (by kernel_rfl) Try.func4 (by kernel_rfl)
    (of_decide_eq_true (by kernel_rfl)) (by unfold Func.isWrapper; first | (rw [if_pos (by decide +kernel)]; kernel_rfl) | (rw [if_neg (by decide +kernel)]; exact ⟨rfl, rfl⟩))
    (fun os started H enc _ => lifted os started H enc)
end Go.Proofs.Ythdmlcendkmnbaa.memoryBytes

namespace Go.Proofs.Ythdmlcendkmnbaa
theorem memoryBytes_holds : Rows.MemoryBytesSaid := memoryBytes.proved
#print axioms memoryBytes_holds
end Go.Proofs.Ythdmlcendkmnbaa
