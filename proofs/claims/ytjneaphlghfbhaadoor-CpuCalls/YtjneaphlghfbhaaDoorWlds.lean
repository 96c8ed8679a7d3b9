/-
  The walk of CpuLoads.
-/
import Derived.Test.YtjneaphlghfbhaaDoorCins
import Derived.Test.YtjneaphlghfbhaaDoorCsep
namespace Go.Proofs.YtjneaphlghfbhaaDoor.Cpu
open Go.RowKit Go.Proofs.YtjneaphlghfbhaaDoor.Bits Go.Proofs.YtjneaphlghfbhaaDoor.Gw Go.Proofs.YtjneaphlghfbhaaDoor.Risc Go.Proofs.YtjneaphlghfbhaaDoor.Alu Go.Proofs.YtjneaphlghfbhaaDoor.Mem
set_option linter.unusedVariables false

theorem wrap_u64 (x : Int) : 0 ≤ IntKind.u64.wrap x ∧ IntKind.u64.wrap x < 18446744073709551616 := by
  show 0 ≤ x % 18446744073709551616 ∧ x % 18446744073709551616 < 18446744073709551616
  omega
theorem flags_or (x : Int) (x0 : 0 ≤ x) (x1 : x < 4294967296) : flW (sgB x) (x == 0) false false = if wrap32 x < 0 then 2147483648 else if x = 0 then 1073741824 else 0 := by
  unfold sgB flW
  by_cases h : wrap32 x < 0
  · have : ¬ x = 0 := by rintro rfl; unfold wrap32 at h; omega
    simp [h, this, bI]
  · by_cases h0 : x = 0
    · subst h0; simp [h, bI]
    · simp [h, h0, bI]
set_option maxHeartbeats 4000000 in
set_option maxRecDepth 100000 in
theorem loads_walk (w : World) (L : Laid w) (x reg : Int) (x0 : 0 ≤ x) (x1 : x < 4294967296) :
    Calls Tryd.prog 5 #[.int .u32 x, .int .i64 reg] w fun e w' => e = .returned (.bool true) ∧ w.grownBy w' none := by
  have HL := hd L
  obtain ⟨Q, hQ⟩ : ∃ Q, IntKind.u64.wrap reg = Q := ⟨_, rfl⟩
  have hQ0 := wrap_u64 reg
  rw [hQ] at hQ0
  obtain ⟨q0, q1⟩ := hQ0
  obtain ⟨a, ha⟩ := Int.eq_ofNat_of_zero_le (Int.emod_nonneg Q (show (16 : Int) ≠ 0 by decide))
  have ha16 : a < 16 := by omega
  obtain ⟨b, hb0⟩ : ∃ b, (a + 1) % 16 = b := ⟨_, rfl⟩
  have hb : ((a : Int) + 1) % 16 = (b : Int) := by omega
  have hb16 : b < 16 := by omega
  have hand : Go.bits .and .u32 x 65535 = x % 65536 := lower_eq x 16 (by decide) (by decide) x0 x1
  obtain ⟨S, hS, s1, s2, s3, s4⟩ := load_ran x a b hb0 x0 x1 ha16
  rw [flags_or x x0 x1] at s4
  have HS := hd hS
  have HA := hd ha16
  have HGd := hd (load_good x a b hb0 x0 x1 ha16)
  have HE := hd (And.intro s1 (And.intro s2 (And.intro s3 s4)))
  have HB := hd hb16
  have HBB := hd hb
  clear L hS s1 s2 s3 s4 hb0
  go_enter Tryd.func5, Tryd.ntmps5
  go_upto_region 3 with fail
  have HX : Hid (Lies (w.alloc (Obj.cells #[Value.int IntKind.i64 1, Value.bool true, Value.bool false, Value.int IntKind.i64 ↑a, Value.int IntKind.i64 0, Value.int IntKind.i64 0, Value.int IntKind.i64 0, Value.int IntKind.i64 (x / 65536), Value.int IntKind.i64 1, Value.bool false, Value.bool false, Value.int IntKind.i64 ↑a, Value.int IntKind.i64 ↑a, Value.int IntKind.i64 0, Value.int IntKind.i64 6, Value.int IntKind.i64 (x % 65536), Value.int IntKind.i64 0, Value.bool true, Value.bool true, Value.int IntKind.i64 ↑b, Value.int IntKind.i64 0, Value.int IntKind.i64 0, Value.int IntKind.i64 0, Value.int IntKind.i64 0] 44)) w.heap.size (loadIs x a b)) := hd ⟨_, _, _, heap_alloc_new w _, rfl⟩
  have HG0 := hd (World.grownBy_alloc w (Obj.cells #[Value.int IntKind.i64 1, Value.bool true, Value.bool false, Value.int IntKind.i64 ↑a, Value.int IntKind.i64 0, Value.int IntKind.i64 0, Value.int IntKind.i64 0, Value.int IntKind.i64 (x / 65536), Value.int IntKind.i64 1, Value.bool false, Value.bool false, Value.int IntKind.i64 ↑a, Value.int IntKind.i64 ↑a, Value.int IntKind.i64 0, Value.int IntKind.i64 6, Value.int IntKind.i64 (x % 65536), Value.int IntKind.i64 0, Value.bool true, Value.bool true, Value.int IntKind.i64 ↑b, Value.int IntKind.i64 0, Value.int IntKind.i64 0, Value.int IntKind.i64 0, Value.int IntKind.i64 0] 44) none)
  generalize w.alloc (Obj.cells #[Value.int IntKind.i64 1, Value.bool true, Value.bool false, Value.int IntKind.i64 ↑a, Value.int IntKind.i64 0, Value.int IntKind.i64 0, Value.int IntKind.i64 0, Value.int IntKind.i64 (x / 65536), Value.int IntKind.i64 1, Value.bool false, Value.bool false, Value.int IntKind.i64 ↑a, Value.int IntKind.i64 ↑a, Value.int IntKind.i64 0, Value.int IntKind.i64 6, Value.int IntKind.i64 (x % 65536), Value.int IntKind.i64 0, Value.bool true, Value.bool true, Value.int IntKind.i64 ↑b, Value.int IntKind.i64 0, Value.int IntKind.i64 0, Value.int IntKind.i64 0, Value.int IntKind.i64 0] 44) = W at HX HG0 ⊢
  generalize w.heap.size = X at HX ⊢
  clear hand ha hb hQ q0 q1
  have HP := played_any (n := 3) (cap := 3) (laid_chg HL.out (F := []) (Chg.still HG0.out) (by simp)) HX.out rfl (by decide) (by decide) HGd.out ⟨#[]⟩ (by decide) 3 3 rfl (by decide) HS.out rfl
  rw [HE.out.1] at HP
  have HPP := hd HP
  clear HP
  go_upto_region 4 with (go_at_call 15; refine HPP.out.mono ?_; rintro e w1 ⟨m, mh, mb, mo, rfl, hm, hg⟩; have HM := hd hm; have HG1 := hd (grown_trans HG0.out hg); clear hm hg)
  have HY := hd (oc_new w1 3 S.tr (strO S.out) (ct ⟨#[]⟩ 3 (Ms.init (codeL (loadIs x a b)) 0)) S.rd)
  replace HM := hd (HM.out.grown (World.grownBy_alloc w1 (Obj.cells #[Value.int IntKind.i64 3, Value.int IntKind.i64 S.tr, Value.string (strO S.out), Value.int IntKind.i64 ↑(ct ⟨#[]⟩ 3 (Ms.init (codeL (loadIs x a b)) 0)), Value.int IntKind.i64 ↑S.rd] 31) none))
  replace HG1 := hd (grown_trans HG1.out (World.grownBy_alloc w1 (Obj.cells #[Value.int IntKind.i64 3, Value.int IntKind.i64 S.tr, Value.string (strO S.out), Value.int IntKind.i64 ↑(ct ⟨#[]⟩ 3 (Ms.init (codeL (loadIs x a b)) 0)), Value.int IntKind.i64 ↑S.rd] 31) none))
  generalize w1.alloc (Obj.cells #[Value.int IntKind.i64 3, Value.int IntKind.i64 S.tr, Value.string (strO S.out), Value.int IntKind.i64 ↑(ct ⟨#[]⟩ 3 (Ms.init (codeL (loadIs x a b)) 0)), Value.int IntKind.i64 ↑S.rd] 31) = V at HY HM HG1 ⊢
  generalize w1.heap.size = Y at HY ⊢
  obtain ⟨y0, _⟩ := HY.out.c
  have RA : ∀ U, U = V → Calls Tryd.prog 13 #[ptr m, .int .i64 a] U fun e w' => e = .returned (wd x) ∧ w' = U := fun U e => by
    subst e
    have := reg_any HM.out a HA.out
    rwa [HE.out.2.2.1] at this
  have RB : ∀ U, U = V → Calls Tryd.prog 13 #[ptr m, .int .i64 b] U fun e w' => e = .returned (wd (if wrap32 x < 0 then 2147483648 else if x = 0 then 1073741824 else 0)) ∧ w' = U := fun U e => by
    subst e
    have := reg_any HM.out b HB.out
    rwa [HE.out.2.2.2] at this
  have PA : ∀ U, U = V → Calls Tryd.prog 11 #[ptr m] U fun e w' => e = .returned (.int .i64 3) ∧ w' = U := fun U e => by
    subst e
    have := pc_any HM.out
    rwa [HE.out.2.1] at this
  have hb : ((a : Int) + 1) % 16 = (b : Int) := HBB.out
  have ha' : (a : Int) < 16 := by omega
  have LV := hd HM.out.laid
  clear HY HX HS
  have o1 : Go.bits .or .u32 0 2147483648 = 2147483648 := by kernel_rfl
  have o2 : Go.bits .or .u32 0 1073741824 = 1073741824 := by kernel_rfl
  by_cases h1 : wrap32 x < 0
  · have h0 : (x == 0) = false := by
      have : ¬ x = 0 := by rintro rfl; unfold wrap32 at h1; omega
      simpa using this
    rw [if_pos h1] at RB
    (go_wp2_with (first | (go_at_call 13; with_reducible refine Calls.mono (RA _ rfl) ?_; rintro e w' ⟨rfl, rfl⟩) | (go_at_call 13; with_reducible refine Calls.mono (RB _ rfl) ?_; rintro e w' ⟨rfl, rfl⟩) | (go_at_call 11; refine (PA _ rfl).mono ?_; rintro e w' ⟨rfl, rfl⟩) | (go_at_call 8; refine (wakes_any _ LV.out).mono ?_; rintro e w8 ⟨rfl, hg⟩; have HWK := hd hg; clear hg)); go_ret; exact ⟨rfl, grown_trans HG1.out HWK.out⟩)
  · by_cases h0 : x = 0
    · rw [if_neg h1, if_pos h0] at RB
      subst h0
      (go_wp2_with (first | (go_at_call 13; with_reducible refine Calls.mono (RA _ rfl) ?_; rintro e w' ⟨rfl, rfl⟩) | (go_at_call 13; with_reducible refine Calls.mono (RB _ rfl) ?_; rintro e w' ⟨rfl, rfl⟩) | (go_at_call 11; refine (PA _ rfl).mono ?_; rintro e w' ⟨rfl, rfl⟩) | (go_at_call 8; refine (wakes_any _ LV.out).mono ?_; rintro e w8 ⟨rfl, hg⟩; have HWK := hd hg; clear hg)); go_ret; exact ⟨rfl, grown_trans HG1.out HWK.out⟩)
    · rw [if_neg h1, if_neg h0] at RB
      have h0' : (x == 0) = false := by simpa using h0
      (go_wp2_with (first | (go_at_call 13; with_reducible refine Calls.mono (RA _ rfl) ?_; rintro e w' ⟨rfl, rfl⟩) | (go_at_call 13; with_reducible refine Calls.mono (RB _ rfl) ?_; rintro e w' ⟨rfl, rfl⟩) | (go_at_call 11; refine (PA _ rfl).mono ?_; rintro e w' ⟨rfl, rfl⟩) | (go_at_call 8; refine (wakes_any _ LV.out).mono ?_; rintro e w8 ⟨rfl, hg⟩; have HWK := hd hg; clear hg)); go_ret; exact ⟨rfl, grown_trans HG1.out HWK.out⟩)
end Go.Proofs.YtjneaphlghfbhaaDoor.Cpu
