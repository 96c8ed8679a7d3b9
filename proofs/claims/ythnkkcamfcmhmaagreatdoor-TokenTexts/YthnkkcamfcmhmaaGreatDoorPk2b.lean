/-
  Package token: quoted.
-/
import Derived.Test.YthnkkcamfcmhmaaGreatDoorPk2
namespace Go.Proofs.YthnkkcamfcmhmaaGreatDoor.Lx
open Go.RowKit Go.Maps Go.Proofs.YthnkkcamfcmhmaaGreatDoor.Tx Go.Proofs.YthnkkcamfcmhmaaGreatDoor.Mp
set_option linter.unusedVariables false
set_option linter.unusedSimpArgs false
set_option maxRecDepth 100000

set_option maxHeartbeats 4000000 in
theorem quoted_at (r : List UInt8) (w : World) (tb : Nat) (T : Tb w tb) (hs : r.length ≤ 900000) :
    Calls Tryz.prog 37 #[.pointer (some ⟨tb, 0, none⟩), .string (bs (34 :: r))] w fun e w' => ∃ v, e = .returned v ∧ TkR 0 (oneT (34 :: r) 0) v ∧ w.grownBy w' none := by
  have b0 : (⟨#[]⟩ : ByteArray) = bs [] := rfl
  have b1 : (⟨#[34]⟩ : ByteArray) = bs [34] := rfl
  obtain ⟨V, hV⟩ : ∃ V, w.alloc (.cells #[.int .i64 0, .string (bs []), .int .i64 0, .int .i64 0] 32) = V := ⟨_, rfl⟩
  have HZ := hide (zr_new w)
  have HV := hide (alloc_g w (.cells #[.int .i64 0, .string (bs []), .int .i64 0, .int .i64 0] 32))
  rw [hV] at HZ HV
  obtain ⟨S, hS⟩ : ∃ S, (34 : UInt8) :: r = S := ⟨_, rfl⟩
  have hsz := bs_size S
  have hlen : S.length = r.length + 1 := by rw [← hS]; rfl
  have j0 : (1 : Int) ≤ S.length := by omega
  have hx0 : (bs S).extract 1 S.length = bs r := by rw [ext_end, ← hS]; rfl
  have HR := hide (run_any r 16 strN and_st V tb (T.kept HV.out) (by omega))
  have hbl := tw_le strN r
  have HO := hide (oneT_quo (r := r) (a := 0))
  rw [hS] at HO ⊢
  have hx1 : (bs S).extract 1 (1 + (r.takeWhile strN).length) = bs (r.takeWhile strN) := by
    rw [bs_ext, ← hS, show 1 + (r.takeWhile strN).length - 1 = (r.takeWhile strN).length by omega, List.drop_succ_cons, List.drop_zero, take_tw]
  have hx2 : (bs S).extract (1 + (r.takeWhile strN).length) S.length = bs (r.drop (r.takeWhile strN).length) := by
    rw [ext_end, ← hS, Nat.add_comm 1, List.drop_succ_cons]
  obtain ⟨x, hx⟩ : ∃ x, r.takeWhile strN = x := ⟨_, rfl⟩
  rw [hx] at HR hbl HO hx1 hx2
  obtain ⟨y, hy⟩ : ∃ y, r.drop x.length = y := ⟨_, rfl⟩
  rw [hy] at HO hx2
  have j1 : (1 : Int) + x.length ≤ S.length := by omega
  have j2 : (1 : Int) ≤ 1 + (x.length : Int) := by omega
  have j3 : ((1 : Int) + x.length).toNat = 1 + x.length := by omega
  have j4 : IntKind.i64.wrap (1 + (x.length : Int)) = 1 + (x.length : Int) := IntWalk.i64_in _ ⟨by omega, by omega⟩
  have HH := hide (fun W => hp_any y [34] W)
  rw [pre_one] at HH
  clear hx hy T hS hlen
  by_cases hq : y.head? = some 34
  · rw [show (y.head? == some 34) = true by simpa using hq] at HH
    rw [if_neg (by simp [hq])] at HO
    clear hq
    by_cases h64 : 64 < x.length
    · rw [if_pos h64] at HO
      have k64 : (64 : Int) < x.length := by omega
      go_enter Tryz.func37, Tryz.ntmps37
      go_wp2_with (first | (go_at_call 32; refine HR.out.mono ?_; rintro e w1 ⟨rfl, hg⟩; replace HZ := hide (keep_n HZ.out hg); replace HV := hide (grown_trans HV.out hg); clear hg; obtain ⟨r0, r1, r2, r3⟩ := four_at HZ.out; have hfR := fun k => free_at (k := k) HZ.out) | (go_at_call 33; refine (HH.out _).mono ?_; rintro e w' ⟨rfl, hw⟩; replace hw := hw.symm; subst hw) | (go_at_call 38; refine (fail_at _ _).mono ?_; unfold tokV; rintro e wk ⟨rfl, hg⟩; have ZR := hide (keep_n HZ.out hg); have HG := hide (grown_trans HV.out hg); clear hg; obtain ⟨r0, r1, r2, r3⟩ := four_at ZR.out; have hfR := fun k => free_at (k := k) ZR.out))
      (go_quiet (fail); replace HZ := hide (keep_d nq HZ.out); replace HV := hide (dr_g nq HV.out); obtain ⟨r0, r1, r2, r3⟩ := four_at HZ.out; have hfR := fun k => free_at (k := k) HZ.out; generalize w1.drewN nq = W2 at *)
      go_wp2_with (first | (go_at_call 32; refine HR.out.mono ?_; rintro e w1 ⟨rfl, hg⟩; replace HZ := hide (keep_n HZ.out hg); replace HV := hide (grown_trans HV.out hg); clear hg; obtain ⟨r0, r1, r2, r3⟩ := four_at HZ.out; have hfR := fun k => free_at (k := k) HZ.out) | (go_at_call 33; refine (HH.out _).mono ?_; rintro e w' ⟨rfl, hw⟩; replace hw := hw.symm; subst hw) | (go_at_call 38; refine (fail_at _ _).mono ?_; unfold tokV; rintro e wk ⟨rfl, hg⟩; have ZR := hide (keep_n HZ.out hg); have HG := hide (grown_trans HV.out hg); clear hg; obtain ⟨r0, r1, r2, r3⟩ := four_at ZR.out; have hfR := fun k => free_at (k := k) ZR.out))
      refine bodyPost_ret (v := tokV 0 0 0 [] 0 2) (by simp [tokV, results, Tryz.results37, go_sem, r0, r1, r2, r3]) rfl ⟨_, rfl, by rw [HO.out]; exact tokR_no, grown_own HG.out (Nat.le_refl _) (four_g _ _ _ _ _ _)⟩
    · rw [if_neg h64] at HO
      have k64 : ¬ (64 : Int) < x.length := by omega
      go_enter Tryz.func37, Tryz.ntmps37
      go_wp2_with (first | (go_at_call 32; refine HR.out.mono ?_; rintro e w1 ⟨rfl, hg⟩; replace HZ := hide (keep_n HZ.out hg); replace HV := hide (grown_trans HV.out hg); clear hg; obtain ⟨r0, r1, r2, r3⟩ := four_at HZ.out; have hfR := fun k => free_at (k := k) HZ.out) | (go_at_call 33; refine (HH.out _).mono ?_; rintro e w' ⟨rfl, hw⟩; replace hw := hw.symm; subst hw) | (go_at_call 38; refine (fail_at _ _).mono ?_; unfold tokV; rintro e wk ⟨rfl, hg⟩; have ZR := hide (keep_n HZ.out hg); have HG := hide (grown_trans HV.out hg); clear hg; obtain ⟨r0, r1, r2, r3⟩ := four_at ZR.out; have hfR := fun k => free_at (k := k) ZR.out))
      (go_quiet (fail); replace HZ := hide (keep_d nq HZ.out); replace HV := hide (dr_g nq HV.out); obtain ⟨r0, r1, r2, r3⟩ := four_at HZ.out; have hfR := fun k => free_at (k := k) HZ.out; generalize w1.drewN nq = W2 at *)
      go_wp2_with (first | (go_at_call 32; refine HR.out.mono ?_; rintro e w1 ⟨rfl, hg⟩; replace HZ := hide (keep_n HZ.out hg); replace HV := hide (grown_trans HV.out hg); clear hg; obtain ⟨r0, r1, r2, r3⟩ := four_at HZ.out; have hfR := fun k => free_at (k := k) HZ.out) | (go_at_call 33; refine (HH.out _).mono ?_; rintro e w' ⟨rfl, hw⟩; replace hw := hw.symm; subst hw) | (go_at_call 38; refine (fail_at _ _).mono ?_; unfold tokV; rintro e wk ⟨rfl, hg⟩; have ZR := hide (keep_n HZ.out hg); have HG := hide (grown_trans HV.out hg); clear hg; obtain ⟨r0, r1, r2, r3⟩ := four_at ZR.out; have hfR := fun k => free_at (k := k) ZR.out))
      refine bodyPost_ret (v := tokV 5 0 0 x ((x.length : Int) + 2) 0) (by simp [tokV, results, Tryz.results37, go_sem, r0, r1, r2, r3]) rfl ⟨_, rfl, by rw [HO.out]; exact tokR_ok (by omega), grown_own HV.out (Nat.le_refl _) (four_g _ _ _ _ _ _)⟩
  · rw [show (y.head? == some 34) = false by simpa using hq] at HH
    rw [if_pos hq] at HO
    clear hq
    go_enter Tryz.func37, Tryz.ntmps37
    go_wp2_with (first | (go_at_call 32; refine HR.out.mono ?_; rintro e w1 ⟨rfl, hg⟩; replace HZ := hide (keep_n HZ.out hg); replace HV := hide (grown_trans HV.out hg); clear hg; obtain ⟨r0, r1, r2, r3⟩ := four_at HZ.out; have hfR := fun k => free_at (k := k) HZ.out) | (go_at_call 33; refine (HH.out _).mono ?_; rintro e w' ⟨rfl, hw⟩; replace hw := hw.symm; subst hw) | (go_at_call 38; refine (fail_at _ _).mono ?_; unfold tokV; rintro e wk ⟨rfl, hg⟩; have ZR := hide (keep_n HZ.out hg); have HG := hide (grown_trans HV.out hg); clear hg; obtain ⟨r0, r1, r2, r3⟩ := four_at ZR.out; have hfR := fun k => free_at (k := k) ZR.out))
    (go_quiet (fail); replace HZ := hide (keep_d nq HZ.out); replace HV := hide (dr_g nq HV.out); obtain ⟨r0, r1, r2, r3⟩ := four_at HZ.out; have hfR := fun k => free_at (k := k) HZ.out; generalize w1.drewN nq = W2 at *)
    go_wp2_with (first | (go_at_call 32; refine HR.out.mono ?_; rintro e w1 ⟨rfl, hg⟩; replace HZ := hide (keep_n HZ.out hg); replace HV := hide (grown_trans HV.out hg); clear hg; obtain ⟨r0, r1, r2, r3⟩ := four_at HZ.out; have hfR := fun k => free_at (k := k) HZ.out) | (go_at_call 33; refine (HH.out _).mono ?_; rintro e w' ⟨rfl, hw⟩; replace hw := hw.symm; subst hw) | (go_at_call 38; refine (fail_at _ _).mono ?_; unfold tokV; rintro e wk ⟨rfl, hg⟩; have ZR := hide (keep_n HZ.out hg); have HG := hide (grown_trans HV.out hg); clear hg; obtain ⟨r0, r1, r2, r3⟩ := four_at ZR.out; have hfR := fun k => free_at (k := k) ZR.out))
    refine bodyPost_ret (v := tokV 0 0 0 [] 0 90) (by simp [tokV, results, Tryz.results37, go_sem, r0, r1, r2, r3]) rfl ⟨_, rfl, by rw [HO.out]; exact tokR_no, grown_own HG.out (Nat.le_refl _) (four_g _ _ _ _ _ _)⟩
end Go.Proofs.YthnkkcamfcmhmaaGreatDoor.Lx
