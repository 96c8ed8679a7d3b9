/-
  For every list of words, every place and every number, the law MemoryForks answers true: what is stored in a fork is not seen in what it came of, nor the other way round, and all else is alike; no conditions.
-/
import Derived.Test.YthdmlcendkmnbaaRows
import Derived.Test.YthdmlcendkmnbaaMargs
import Derived.WalkKit
import Derived.ProofKit
import Derived.Below
import Derived.Deep.Cut
namespace Go.Proofs.Ythdmlcendkmnbaa.memoryForks
open Go.ChangeShapes Go.WideShapes Go.ChangeAt Go.RowKit Go.Proofs.Ythdmlcendkmnbaa.Mem Go.Proofs.Ythdmlcendkmnbaa.Bits
set_option linter.unusedVariables false

theorem cut_all {xs : List Int} {n : Nat} (h : xs.length = n) : okW xs 0 n = true ∧ cutL xs 0 n = xs := by
  have e : okW xs 0 n = true := by unfold okW; simp; omega
  refine ⟨e, ?_⟩
  unfold cutL
  rw [if_pos e]
  subst h
  simp
theorem be_at {xs : List Int} {q : Nat} (h : q < xs.length) : beB xs (4 * q) = true := by unfold beB; simp; omega
theorem ld_at {xs : List Int} {q : Nat} (h : q < xs.length) : ldI xs (4 * q) = at0 xs q := by
  unfold ldI
  rw [if_pos (be_at h), show (4 * (q : Int)) / 4 = (q : Int) by omega]
  rfl
theorem st_at {xs : List Int} {q : Nat} (h : q < xs.length) (v : Int) : stL xs (4 * q) v = xs.set q v := by
  unfold stL
  rw [if_pos (be_at h), show (4 * (q : Int)) / 4 = (q : Int) by omega]
  rfl
theorem set_at {xs : List Int} {q : Nat} (h : q < xs.length) (v : Int) : at0 (xs.set q v) q = v := by simp [at0, h]
theorem set_ne {xs : List Int} {q k : Nat} (h : k ≠ q) (v : Int) : at0 (xs.set q v) k = at0 xs k := by simp [at0, Ne.symm h]
set_option maxHeartbeats 4000000 in
set_option maxRecDepth 100000 in

theorem walk (w : World) (o0 : Option Addr) (n0 c0 : Nat) (x0 : List Int) (W0 : Wl w o0 n0 c0 x0) (a1 : Int) (w1 : (Lit.int .u32 a1).wf = true) (a2 : Int) (w2 : (Lit.int .u32 a2).wf = true) :
    Calls Try.prog 6 #[.slice o0 n0 c0, .int .u32 a1, .int .u32 a2] w fun e w' => e = .returned (.bool true) ∧ Below w.heap.size w w' := by
  obtain ⟨p0, p1⟩ := bounds_u32 w1
  obtain ⟨v0, v1⟩ := bounds_u32 w2
  have v1' : a2 < 4294967296 := by omega
  obtain ⟨B, hBB⟩ : ∃ B, B = w.heap.size := ⟨_, rfl⟩
  have HBB : Hid (B = w.heap.size) := hBB
  have HB : Hid (Below B w w) := Below.refl _ _
  have HW : Hid (Wl w o0 n0 c0 x0) := W0
  have hmax := W0.max
  unfold maxLen at hmax
  rw [← hBB]
  clear hBB W0
  by_cases hn : 1 ≤ n0 ∧ n0 ≤ 3000
  · obtain ⟨hn1, hn2⟩ := hn
    obtain ⟨q, hq⟩ : ∃ q : Nat, a1 % (n0 : Int) = q := ⟨(a1 % (n0 : Int)).toNat, by have := Int.emod_nonneg a1 (show (n0 : Int) ≠ 0 by omega); omega⟩
    have hqn : (q : Int) < n0 := by rw [← hq]; exact Int.emod_lt_of_pos _ (by omega)
    have hql : q < x0.length := by rw [HW.out.len]; omega
    obtain ⟨K, hK⟩ : ∃ K : Int, K = 4 * q := ⟨_, rfl⟩
    obtain ⟨u, hu⟩ : ∃ u, u = (a2 + 1) % 4294967296 := ⟨_, rfl⟩
    obtain ⟨ys, hys⟩ : ∃ ys, ys = x0.set q a2 := ⟨_, rfl⟩
    obtain ⟨zs, hzs⟩ : ∃ zs, zs = x0.set q u := ⟨_, rfl⟩
    have hyl : ys.length = n0 := by rw [hys, List.length_set]; exact HW.out.len
    have hzl : zs.length = n0 := by rw [hzs, List.length_set]; exact HW.out.len
    have eB : beB x0 K = true := by rw [hK]; exact be_at hql
    have eBy : beB ys K = true := by rw [hK]; exact be_at (by rw [hyl]; omega)
    have eS : stL x0 K a2 = ys := by rw [hK, hys]; exact st_at hql a2
    have eSz : stL x0 K u = zs := by rw [hK, hzs]; exact st_at hql u
    have eL : ldI x0 K = at0 x0 q := by rw [hK]; exact ld_at hql
    have eLy : ldI ys K = a2 := by rw [hK, ld_at (by rw [hyl]; omega), hys]; exact set_at hql a2
    obtain ⟨okz, cutz⟩ := cut_all hzl
    obtain ⟨oky, cuty⟩ := cut_all hyl
    obtain ⟨ad, rfl⟩ : ∃ ad, o0 = some ad := by
      cases o0 with
      | none => have := HW.out.src.1 rfl; rw [this] at hql; simp at hql
      | some ad => exact ⟨ad, rfl⟩
    have HX : Hid (∀ j, j < n0 → w.cell? (ad.add j) = some (wd (at0 x0 j))) := fun j hj => HW.out.src.2 ad rfl j _ (by have := HW.out.len; simp [at0, show j < x0.length by omega])
    have hcell := HX.out q (by omega)
    obtain ⟨X, hX⟩ : ∃ X, at0 x0 q = X := ⟨_, rfl⟩
    rw [hX] at hcell eL
    have HC : Hid (w.cell? (ad.add q) = some (wd X)) := hcell
    have HAD : Hid ((ad.add q).block < B) := by rw [HBB.out]; exact World.block_lt_of_cell? w _ hcell
    have HYS : Hid (∀ k, k ≠ q → at0 ys k = at0 x0 k) := fun k hk => by rw [hys]; exact set_ne hk a2
    have HZS : Hid (∀ k, k ≠ q → at0 zs k = at0 x0 k) := fun k hk => by rw [hzs]; exact set_ne hk u
    have hz1 : ((n0 : Int) == 0) = false := by simp; omega
    have hz2 : decide ((3000 : Int) < n0) = false := by simp; omega
    have hqt : a1.tmod (n0 : Int) = q := by rw [Int.tmod_eq_emod_of_nonneg p0]; exact hq
    have hK4 : (q : Int) * 4 = K := by omega
    have hKq : K / 4 = (q : Int) := by omega
    have K0 : 0 ≤ K := by omega
    have K1 : K < 4294967296 := by omega
    have u0 : 0 ≤ u := by omega
    have u1 : u < 4294967296 := by omega
    have hu' : (a2 + 1) % 4294967296 = u := hu.symm
    clear hK hu hys hzs hcell hX hql
    go_enter Try.func6, Try.ntmps6
    go_upto_region 4 with (first | (at_builtin; refine wpList_append_src (w0 := w) rfl (.tmp 32) (.tmp 33) rfl w.heap.size rfl (heap_alloc_new _ _) _ _ _ rfl x0 (HW.out.src.kept (World.grownBy_alloc _ _ _)) HW.out.rng HW.out.len HW.out.none (by omega) w.heap.size (Nat.le_refl _) ((Below.refl _ _).alloc (Nat.le_refl _) _) ?_; intro bb cc w1 hbb ha hw; have HA := hid ha; rw [← HBB.out] at hw; have HB1 := hid hw; clear ha hw) | (go_at_call 8; refine (new_n HA.out.src HA.out.rng HW.out.len (by omega)).mono ?_; rintro e w2 ⟨a, b, rfl, hg, hm, hab, hbb2⟩; have hb3 := Nat.le_trans (bz HB1 HBB) hbb2; have HM := hid hm; clear hm; have HB2 := bn HB1 HBB hg; clear hg hab hbb2 hbb))
    go_upto_region 5 with (go_at_call 23; refine (fork_at HM.out (by rw [HW.out.len]; omega)).mono ?_; rintro e w3 ⟨a', b', rfl, hg, hm, hab, hbb2⟩; have hb4 := Nat.le_trans (bz HB2 HBB) hbb2; have hne : b' ≠ b := by {have := HM.out.row.lt; omega}; have HO := hid (HM.out.ob.kept hg); have HF := hid hm.ob; have HB3 := bn HB2 HBB hg; clear hm hg hab hbb2)
    go_upto_region 8 with (go_at_call 15; refine (store_ob HF.out _ _ K0 K1 v0 v1').mono ?_; rw [eB, eS]; rintro e w4 ⟨rfl, hg, ho⟩; have HO4 := hid (HO.out.other (by decide) HF.out (fun e => by cases e) hne hg); have HF4 := hid ho; have HB4 := bs HB3 HBB hb4 hg; clear hg ho)
    go_upto_region 9 with (go_at_call 13; refine (load_ob HO4.out _ K0 K1).mono ?_; rw [eL, eB]; rintro e w' ⟨rfl, rfl⟩)
    go_upto_region 10 with (go_at_call 13; refine (load_ob HF4.out _ K0 K1).mono ?_; rw [eLy, eBy]; rintro e w' ⟨rfl, rfl⟩; have hcw := (HB4.out.cell HAD.out).trans HC.out)
    go_upto_region 12 with (go_at_call 15; refine (store_ob HO4.out _ _ K0 K1 u0 u1).mono ?_; rw [eB, eSz]; rintro e w5 ⟨rfl, hg, ho⟩; have HF5 := hid (HF4.out.other (by decide) HO4.out (fun e => by cases e) (Ne.symm hne) hg); have HO5 := hid ho; have HB5 := bs HB4 HBB hb3 hg; clear hg ho hcw)
    go_upto_region 13 with (go_at_call 13; refine (load_ob HF5.out _ K0 K1).mono ?_; rw [eLy, eBy]; rintro e w' ⟨rfl, rfl⟩)
    go_upto_region 14 with (go_at_call 21; refine (words_ok HO5.out (by rw [hzl]; omega) _ _ okz).mono ?_; rw [cutz, Int.toNat_natCast]; rintro e w6 ⟨g1, rfl, hg, ha⟩; have HZ := hid ha; have HF6 := hid (HF5.out.kept hg); have HB6 := bn HB5 HBB hg; clear hg ha)
    go_upto_region 15 with (go_at_call 21; refine (words_ok HF6.out (by rw [hyl]; omega) _ _ oky).mono ?_; rw [cuty, Int.toNat_natCast]; rintro e w7 ⟨g2, rfl, hg, ha⟩; have HY := hid ha; have HZ7 := hid (HZ.out.kept hg (by simp)); have HB7 := bn HB6 HBB hg; clear hg ha)
    go_wp2
    have HX7 : Hid (∀ j, j < n0 → w7.cell? (ad.add j) = some (wd (at0 x0 j))) := fun j hj => (HB7.out.cell (by rw [HBB.out]; exact World.block_lt_of_cell? w _ (HX.out j hj))).trans (HX.out j hj)
    go_loopw [21] (fun j wr => ∃ k d : Nat, k ≤ n0 ∧ j = .int .i64 k ∧ wr = w7.drewN d)
      (fun j _ => n0 - (intOf j).toNat)
    case atStart => exact ⟨0, 0, Nat.zero_le _, rfl, rfl⟩
    case round =>
      obtain ⟨k, d, hk, rfl, rfl⟩ := hrel
      by_cases hlt : k < n0
      · have hlt' : (k : Int) < (n0 : Int) := by omega
        by_cases hkq : k = q
        · subst hkq
          go_wp2
          go_quiet (fail)
          go_wp2
          exact ⟨⟨k + 1, d + nq, by omega, by go_num, rfl⟩, by simp [intOf]; omega⟩
        · have h1 := HX7.out k hlt
          have h2 := HY.out.cell (k := k) (by rw [hyl]; omega)
          have h3 := HZ7.out.cell (k := k) (by rw [hzl]; omega)
          rw [HYS.out k hkq] at h2
          rw [HZS.out k hkq] at h3
          obtain ⟨x, hx⟩ : ∃ x, at0 x0 k = x := ⟨_, rfl⟩
          rw [hx] at h1 h2 h3
          have hne1 : ((k : Int) == (q : Int)) = false := by simp; omega
          have hne2 : ((k : Int) != (q : Int)) = true := by simp; omega
          have hne3 : (k == q) = false := by simp; omega
          have hne4 : (k != q) = true := by simp; omega
          clear hx
          go_wp2
          go_quiet (fail)
          go_wp2
          exact ⟨⟨k + 1, d + nq, by omega, by go_num, rfl⟩, by simp [intOf]; omega⟩
      · obtain rfl : k = n0 := by omega
        go_wp2_with (go_at_call 7; refine (wakes_any _).mono ?_; rintro e w8 ⟨rfl, hg⟩; have HB8 := bn (bd HB7 HBB d) HBB hg; clear hg)
        go_ret
        exact ⟨rfl, HB8.out⟩
  · have hn' : n0 = 0 ∨ 3000 < n0 := by omega
    rcases hn' with hn | hn
    all_goals
      go_enter Try.func6, Try.ntmps6
      go_wp2_with (go_at_call 7; refine (wakes_any _).mono ?_; rintro e w6 ⟨rfl, hg⟩; have HB8 := bn HB HBB hg; clear hg)
      all_goals go_ret
      all_goals exact ⟨rfl, HB8.out⟩

set_option maxRecDepth 100000 in
theorem lifted (os : Os) (started : os.Started) (H : Type) (enc : TypeId × Value → H) :
    ReturnsInHanded {} Try.checked os 6 .any (Rows.memoryForksSpec.pre6 enc Try.prog Try.f6 Rows.memoryForksRow.domain false) (Rows.memoryForksSpec.post enc Try.prog Try.f6 false true false false) := by
  refine returnsInHanded_of_change (C := Try.checked) own started (by kernel_rfl) Try.func6
    (ChangeSpec.witness6 (enc := enc) (C := Try.checked) false ⟨#[], #[.slice none 0 0, .int .u32 0, .int .u32 0], []⟩ 8 (by kernel_rfl) (by kernel_rfl) (by kernel_rfl) (by kernel_rfl)) ?_
  intro W base args ds gs before hval0 hW hcnd _
  have hval : ∀ (j : Nat) t v, Try.f6.params[j]? = some t → args[j]? = some v → Value.okWide Try.prog W .any base t v := hval0
  have hW' := hW
  obtain ⟨p, q, hA0, hV, rfl, hfz, hnd⟩ := hW
  have hA : DataW.TrodAll enc Try.prog W 0 (fun _ => true) true Try.f6.params.toList args.toList ds p := hA0
  rw [Try.params6] at hA hval
  obtain ⟨v0, vs0, d0, ds0, p0, q0, hargs, rfl, rfl, h0, r0⟩ := trodAll_cons hA
  obtain ⟨v1, vs1, d1, ds1, p1, q1, rfl, rfl, rfl, h1, r1⟩ := trodAll_cons r0
  obtain ⟨v2, vs2, d2, ds2, p2, q2, rfl, rfl, rfl, h2, r2⟩ := trodAll_cons r1
  obtain ⟨rfl, rfl, rfl⟩ := trodAll_nil r2
  obtain rfl : args = #[v0, v1, v2] := by cases args; simp_all
  obtain ⟨rfl, rfl⟩ := trodVars_none hV
  obtain ⟨o0, n0, c0, rfl⟩ := okWide_slice Try.underlying22 (hval 0 22 v0 rfl rfl)
  have k0 := h0
  have lt0 : ∀ x ∈ p0, x.block < W.heap.size := by obtain ⟨m, hm⟩ := k0; exact DataW.trod_lt m _ _ _ hm
  obtain ⟨x0, W0⟩ := open_words h0
  obtain ⟨a1, rfl, rfl, rfl, w1⟩ := open_int Try.underlying34 (hval 1 34 v1 rfl rfl) h1
  obtain ⟨a2, rfl, rfl, rfl, w2⟩ := open_int Try.underlying34 (hval 2 34 v2 rfl rfl) h2
  clear hA0 hval0
  refine (walk W o0 n0 c0 x0 W0 a1 w1 a2 w2).mono fun e W' ⟨he, bel⟩ => ?_
  subst he
  exact ⟨_, rfl, _, _, _, [], _, [], hW', trodAll_mk1 (shut_bool Try.underlying4 _), (trodAll_cons_mk (Below.trod laidOut (by kernel_rfl) (of_decide_eq_true (by kernel_rfl)) k0 bel lt0) (trodAll_cons_mk (shut_int Try.underlying34 w1) (trodAll_cons_mk (shut_int Try.underlying34 w2) trodAll_mk0))), rfl, bel.frame _, fun h => by cases h⟩

theorem proved : Rows.MemoryForksSaid :=
  OpenClaim.holds_of_wide 6 Try.f6 rfl rfl rfl rfl rfl rfl rfl ⟨rfl, rfl, rfl, rfl, rfl⟩ rfl rfl rfl rfl rfl (by kernel_rfl) Try.func6 (by kernel_rfl)
    (of_decide_eq_true (by kernel_rfl)) (by unfold Func.isWrapper; first | (rw [if_pos (by decide +kernel)]; kernel_rfl) | (rw [if_neg (by decide +kernel)]; exact ⟨rfl, rfl⟩))
    (fun os started H enc _ => lifted os started H enc)
end Go.Proofs.Ythdmlcendkmnbaa.memoryForks

namespace Go.Proofs.Ythdmlcendkmnbaa
theorem memoryForks_holds : Rows.MemoryForksSaid := memoryForks.proved
#print axioms memoryForks_holds
end Go.Proofs.Ythdmlcendkmnbaa
