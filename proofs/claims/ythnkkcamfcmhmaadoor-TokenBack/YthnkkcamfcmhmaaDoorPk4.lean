/-
  Package token: first, the token that a text begins with.
-/
import Derived.Test.YthnkkcamfcmhmaaDoorPk3
namespace Go.Proofs.YthnkkcamfcmhmaaDoor.Lx
open Go.RowKit Go.Maps Go.Proofs.YthnkkcamfcmhmaaDoor.Tx Go.Proofs.YthnkkcamfcmhmaaDoor.Mp
set_option linter.unusedVariables false
set_option linter.unusedSimpArgs false
set_option maxRecDepth 100000

def pickT (s : List UInt8) : Except Int (Tk × Nat) := match pick signs s with | some t => .ok (⟨6, t, 0, 0⟩, t.length) | none => .error 90
theorem one_pick {c : UInt8} {r : List UInt8} (h : letN c = false) (h2 : digN c = false) (h3 : c ≠ 34) : oneT (c :: r) 0 = pickT (c :: r) := by
  rw [oneT_sign h h2 h3, pickT, pick_sign]
  split
  · rename_i hh
    have : ((c :: r).take 2).length = 2 := by have := hh.1; simp; omega
    simp only []
    rw [this]
  · split <;> rfl
theorem pick_nil : pickT [] = .error 90 := rfl
def sgN (i : Nat) : List UInt8 := (signs[i]?).getD []
theorem idx_sg (k : Nat) (h : k < 26) (w : World) : (Instr.index 71 (.agg sgC) (.int .i64 k)).run Tryd.prog w = .ok (.string (bs (sgN k))) w := by
  have : k = 0 ∨ k = 1 ∨ k = 2 ∨ k = 3 ∨ k = 4 ∨ k = 5 ∨ k = 6 ∨ k = 7 ∨ k = 8 ∨ k = 9 ∨ k = 10 ∨ k = 11 ∨ k = 12 ∨ k = 13 ∨ k = 14 ∨ k = 15 ∨ k = 16 ∨ k = 17 ∨ k = 18 ∨ k = 19 ∨ k = 20 ∨ k = 21 ∨ k = 22 ∨ k = 23 ∨ k = 24 ∨ k = 25 := by omega
  rcases this with h | h | h | h | h | h | h | h | h | h | h | h | h | h | h | h | h | h | h | h | h | h | h | h | h | h <;> subst h <;> rfl
theorem sgN_at {k : Nat} (h : k < signs.length) : signs[k] = sgN k := by
  unfold sgN
  rw [List.getElem?_eq_getElem h]
  rfl
theorem pre_ext {t s : List UInt8} (h : preB t s = true) : t.length ≤ s.length ∧ (bs s).extract 0 t.length = bs t := by
  unfold preB at h
  rw [List.isPrefixOf_iff_prefix] at h
  refine ⟨h.length_le, ?_⟩
  rw [ext_begin, ← List.prefix_iff_eq_take.1 h]
theorem sgN_len (k : Nat) (h : k < 26) : (sgN k).length ≤ 2 := by
  have h' : k < signs.length := h
  have h2 := signs_len _ (List.getElem_mem h')
  rw [sgN_at h'] at h2
  exact h2
set_option maxHeartbeats 4000000 in
theorem first_let (c : UInt8) (r : List UInt8) (hc : letN c = true) (w : World) (tb : Nat) (T : Tb w tb) (hs : r.length ≤ 900000) :
    Calls Tryd.prog 17 #[.pointer (some ⟨tb, 0, none⟩), .string (bs (c :: r))] w fun e w' => ∃ v, e = .returned v ∧ TkR 0 (oneT (c :: r) 0) v ∧ w.grownBy w' none := by
  have b0 : (⟨#[]⟩ : ByteArray) = bs [] := rfl
  obtain ⟨V, hV⟩ : ∃ V, w.alloc (.cells #[.int .i64 0, .string (bs []), .int .i64 0, .int .i64 0] 37) = V := ⟨_, rfl⟩
  have HZ := hide (zr_new w)
  have HV := hide (alloc_g w (.cells #[.int .i64 0, .string (bs []), .int .i64 0, .int .i64 0] 37))
  rw [hV] at HZ HV
  have HTb := hide T
  have HW := hide (fun W (h : w.grownBy W none) => word_at c r hc W tb (T.kept h) hs)
  have hpos := (run_pos letN c r).2 hc
  obtain ⟨S, hS⟩ : ∃ S, c :: r = S := ⟨_, rfl⟩
  rw [hS] at HW hpos ⊢
  have HRl := hide (run_any S 2 letN and_le V tb (T.kept HV.out) (by rw [← hS]; simp; omega))
  obtain ⟨m, hm⟩ : ∃ m, (S.takeWhile letN).length = m := ⟨_, rfl⟩
  rw [hm] at HRl hpos
  have k1 : (0 : Int) < m := by omega
  clear hS hm T
  go_enter Tryd.func17, Tryd.ntmps17
  go_wp2_with (first | (go_at_call 28; refine HRl.out.mono ?_; rintro e w1 ⟨rfl, hg⟩; have H1 := hide hg; replace HZ := hide (keep_n HZ.out hg); replace HV := hide (grown_trans HV.out hg); clear hg) | (go_at_call 31; refine (HW.out _ HV.out).mono ?_; rintro e wk ⟨v, rfl, hv, hg⟩; obtain ⟨tk, tx, tn, ta, ty, te, rfl⟩ := tk_shape hv; have HTv := hide hv; have ZR := hide (keep_n HZ.out hg); have HG := hide (grown_trans HV.out hg); clear hg hv; obtain ⟨r0, r1, r2, r3⟩ := four_at ZR.out; have hfR := fun k => free_at (k := k) ZR.out))
  refine bodyPost_ret (v := .tuple #[.agg #[.int .i64 tk, .string (bs tx), .int .i64 tn, .int .i64 ta], .int .i64 ty, .int .i64 te]) (by simp [results, Tryd.results17, go_sem, r0, r1, r2, r3]) rfl ⟨_, rfl, HTv.out, grown_own HG.out (Nat.le_refl _) (four_g _ _ _ _ _ _)⟩
set_option maxHeartbeats 4000000 in
theorem first_dig (c : UInt8) (r : List UInt8) (hc : digN c = true) (w : World) (tb : Nat) (T : Tb w tb) (A : Gt w) (hs : r.length ≤ 900000) :
    Calls Tryd.prog 17 #[.pointer (some ⟨tb, 0, none⟩), .string (bs (c :: r))] w fun e w' => ∃ v, e = .returned v ∧ TkR 0 (oneT (c :: r) 0) v ∧ w.grownBy w' none := by
  have b0 : (⟨#[]⟩ : ByteArray) = bs [] := rfl
  obtain ⟨V, hV⟩ : ∃ V, w.alloc (.cells #[.int .i64 0, .string (bs []), .int .i64 0, .int .i64 0] 37) = V := ⟨_, rfl⟩
  have HZ := hide (zr_new w)
  have HV := hide (alloc_g w (.cells #[.int .i64 0, .string (bs []), .int .i64 0, .int .i64 0] 37))
  rw [hV] at HZ HV
  have HW := hide (fun W (h : w.grownBy W none) => number_at' c r hc W tb (T.kept h) (A.g h) hs)
  have hno : ((c :: r).takeWhile letN).length = 0 := by rw [List.takeWhile_cons, if_neg (by simp [dig_let hc])]; rfl
  have hpos := (run_pos digN c r).2 hc
  obtain ⟨S, hS⟩ : ∃ S, c :: r = S := ⟨_, rfl⟩
  rw [hS] at HW hpos hno ⊢
  have HRl := hide (run_any S 2 letN and_le V tb (T.kept HV.out) (by rw [← hS]; simp; omega))
  rw [hno] at HRl
  have HRd := hide (fun W (h : V.grownBy W none) => run_any S 4 digN and_di W tb ((T.kept HV.out).kept h) (by rw [← hS]; simp; omega))
  obtain ⟨m, hm⟩ : ∃ m, (S.takeWhile digN).length = m := ⟨_, rfl⟩
  rw [hm] at HRd hpos
  have k1 : (0 : Int) < m := by omega
  clear hS hm T A hno
  go_enter Tryd.func17, Tryd.ntmps17
  go_wp2_with (first | (go_at_call 28; refine (HRd.out _ H1.out).mono ?_; rintro e w2 ⟨rfl, hg⟩; have H2 := hide hg; replace HZ := hide (keep_n HZ.out hg); replace HV := hide (grown_trans HV.out hg); clear hg) | (go_at_call 28; refine HRl.out.mono ?_; rintro e w1 ⟨rfl, hg⟩; have H1 := hide hg; replace HZ := hide (keep_n HZ.out hg); replace HV := hide (grown_trans HV.out hg); clear hg) | (go_at_call 32; refine (HW.out _ HV.out).mono ?_; rintro e wk ⟨v, rfl, hv, hg⟩; obtain ⟨tk, tx, tn, ta, ty, te, rfl⟩ := tk_shape hv; have HTv := hide hv; have ZR := hide (keep_n HZ.out hg); have HG := hide (grown_trans HV.out hg); clear hg hv; obtain ⟨r0, r1, r2, r3⟩ := four_at ZR.out; have hfR := fun k => free_at (k := k) ZR.out))
  refine bodyPost_ret (v := .tuple #[.agg #[.int .i64 tk, .string (bs tx), .int .i64 tn, .int .i64 ta], .int .i64 ty, .int .i64 te]) (by simp [results, Tryd.results17, go_sem, r0, r1, r2, r3]) rfl ⟨_, rfl, HTv.out, grown_own HG.out (Nat.le_refl _) (four_g _ _ _ _ _ _)⟩
set_option maxHeartbeats 4000000 in
theorem first_quo (r : List UInt8) (w : World) (tb : Nat) (T : Tb w tb) (hs : r.length ≤ 900000) :
    Calls Tryd.prog 17 #[.pointer (some ⟨tb, 0, none⟩), .string (bs (34 :: r))] w fun e w' => ∃ v, e = .returned v ∧ TkR 0 (oneT (34 :: r) 0) v ∧ w.grownBy w' none := by
  have b0 : (⟨#[]⟩ : ByteArray) = bs [] := rfl
  have b1 : (⟨#[34]⟩ : ByteArray) = bs [34] := rfl
  obtain ⟨V, hV⟩ : ∃ V, w.alloc (.cells #[.int .i64 0, .string (bs []), .int .i64 0, .int .i64 0] 37) = V := ⟨_, rfl⟩
  have HZ := hide (zr_new w)
  have HV := hide (alloc_g w (.cells #[.int .i64 0, .string (bs []), .int .i64 0, .int .i64 0] 37))
  rw [hV] at HZ HV
  have HW := hide (fun W (h : w.grownBy W none) => quoted_at r W tb (T.kept h) hs)
  have hno : (((34 : UInt8) :: r).takeWhile letN).length = 0 := rfl
  have hnd : (((34 : UInt8) :: r).takeWhile digN).length = 0 := rfl
  have hp : preB [34] (34 :: r) = true := by rw [pre_one]; rfl
  obtain ⟨S, hS⟩ : ∃ S, (34 : UInt8) :: r = S := ⟨_, rfl⟩
  rw [hS] at HW hno hnd hp ⊢
  have HRl := hide (run_any S 2 letN and_le V tb (T.kept HV.out) (by rw [← hS]; simp; omega))
  rw [hno] at HRl
  have HRd := hide (fun W (h : V.grownBy W none) => run_any S 4 digN and_di W tb ((T.kept HV.out).kept h) (by rw [← hS]; simp; omega))
  rw [hnd] at HRd
  have HH := hide (fun W => hp_any S [34] W)
  rw [hp] at HH
  clear hS T hno hnd hp
  go_enter Tryd.func17, Tryd.ntmps17
  go_wp2_with (first | (go_at_call 28; refine (HRd.out _ H1.out).mono ?_; rintro e w2 ⟨rfl, hg⟩; have H2 := hide hg; replace HZ := hide (keep_n HZ.out hg); replace HV := hide (grown_trans HV.out hg); clear hg) | (go_at_call 28; refine HRl.out.mono ?_; rintro e w1 ⟨rfl, hg⟩; have H1 := hide hg; replace HZ := hide (keep_n HZ.out hg); replace HV := hide (grown_trans HV.out hg); clear hg) | (go_at_call 29; refine (HH.out _).mono ?_; rintro e w' ⟨rfl, hw⟩; replace hw := hw.symm; subst hw) | (go_at_call 33; refine (HW.out _ HV.out).mono ?_; rintro e wk ⟨v, rfl, hv, hg⟩; obtain ⟨tk, tx, tn, ta, ty, te, rfl⟩ := tk_shape hv; have HTv := hide hv; have ZR := hide (keep_n HZ.out hg); have HG := hide (grown_trans HV.out hg); clear hg hv; obtain ⟨r0, r1, r2, r3⟩ := four_at ZR.out; have hfR := fun k => free_at (k := k) ZR.out))
  refine bodyPost_ret (v := .tuple #[.agg #[.int .i64 tk, .string (bs tx), .int .i64 tn, .int .i64 ta], .int .i64 ty, .int .i64 te]) (by simp [results, Tryd.results17, go_sem, r0, r1, r2, r3]) rfl ⟨_, rfl, HTv.out, grown_own HG.out (Nat.le_refl _) (four_g _ _ _ _ _ _)⟩
set_option maxHeartbeats 8000000 in
theorem first_sign (s : List UInt8) (hno : (s.takeWhile letN).length = 0) (hnd : (s.takeWhile digN).length = 0) (hp : preB [34] s = false) (w : World) (tb : Nat) (T : Tb w tb) (A : Gt w) (hs : s.length ≤ 1000000) :
    Calls Tryd.prog 17 #[.pointer (some ⟨tb, 0, none⟩), .string (bs s)] w fun e w' => ∃ v, e = .returned v ∧ TkR 0 (pickT s) v ∧ w.grownBy w' none := by
  have b0 : (⟨#[]⟩ : ByteArray) = bs [] := rfl
  have b1 : (⟨#[34]⟩ : ByteArray) = bs [34] := rfl
  have hsz := bs_size s
  obtain ⟨V, hV⟩ : ∃ V, w.alloc (.cells #[.int .i64 0, .string (bs []), .int .i64 0, .int .i64 0] 37) = V := ⟨_, rfl⟩
  have HZ := hide (zr_new w)
  have HV := hide (alloc_g w (.cells #[.int .i64 0, .string (bs []), .int .i64 0, .int .i64 0] 37))
  rw [hV] at HZ HV
  have HRl := hide (run_any s 2 letN and_le V tb (T.kept HV.out) hs)
  rw [hno] at HRl
  have HRd := hide (fun W (h : V.grownBy W none) => run_any s 4 digN and_di W tb ((T.kept HV.out).kept h) hs)
  rw [hnd] at HRd
  have HH := hide (fun W => hp_any s [34] W)
  rw [hp] at HH
  have HAw := hide A
  clear T hno hnd hp A
  go_enter Tryd.func17, Tryd.ntmps17
  go_wp2_with (first | (go_at_call 28; refine (HRd.out _ H1.out).mono ?_; rintro e w2 ⟨rfl, hg⟩; have H2 := hide hg; replace HZ := hide (keep_n HZ.out hg); replace HV := hide (grown_trans HV.out hg); clear hg) | (go_at_call 28; refine HRl.out.mono ?_; rintro e w1 ⟨rfl, hg⟩; have H1 := hide hg; replace HZ := hide (keep_n HZ.out hg); replace HV := hide (grown_trans HV.out hg); clear hg) | (go_at_call 29; refine (HH.out _).mono ?_; rintro e w' ⟨rfl, hw⟩; replace hw := hw.symm; subst hw) | (obtain ⟨sty, sfr, hsg⟩ := (HAw.out.g HV.out).signs; refine wpList_load_row rfl 71 (.global 0) rfl 0 rfl _ _ _ _ hsg Tryd.underlying71 rfl (by kernel_rfl) ?_; clear hsg))
  go_loop [8, 41] (fun tv iv => ∃ (i : Nat) (t : Value), i ≤ 26 ∧ iv = .int .i64 i ∧ tv = t ∧ Hid (∀ t ∈ signs.take i, preB t s = false)) (fun _ iv => 26 - (intOf iv).toNat)
  case atStart => exact ⟨0, _, Nat.zero_le _, rfl, rfl, hide (by simp)⟩
  case round =>
    obtain ⟨i, tv, hi, rfl, rfl, HN⟩ := hrel
    by_cases hlt : i < 26
    · have j1 : (i : Int) < 26 := by omega
      have hix := idx_sg i hlt
      have htl := sgN_len i hlt
      have hls : i < signs.length := hlt
      have HGe := hide (sgN_at hls)
      obtain ⟨t, ht⟩ : ∃ t, sgN i = t := ⟨_, rfl⟩
      rw [ht] at hix htl HGe
      have htz := bs_size t
      have HH2 := hide (fun W => hp_any s t W)
      clear ht HH
      cases hq : preB t s
      · rw [hq] at HH2
        have HN2 := hide (show ∀ t ∈ signs.take (i + 1), preB t s = false by
          intro u hu
          rw [List.take_succ_eq_append_getElem hls] at hu
          rcases List.mem_append.1 hu with h | h
          · exact HN.out u h
          · have e : u = t := by rw [← HGe.out]; simpa using h
            rw [e]; exact hq)
        clear hq
        go_wp2_with ((go_at_call 29; refine (HH2.out _).mono ?_; rintro e w' ⟨rfl, hw⟩; replace hw := hw.symm; subst hw))
        exact ⟨⟨i + 1, _, by omega, by go_num, rfl, HN2⟩, by simp [intOf]; omega⟩
      · rw [hq] at HH2
        obtain ⟨hle, hex⟩ := pre_ext hq
        have HP := hide (show pickT s = .ok (⟨6, t, 0, 0⟩, t.length) by rw [pickT, pick_at hls HN.out HGe.out hq])
        have j2 : (t.length : Int) ≤ s.length := by omega
        obtain ⟨r0, r1, r2, r3⟩ := four_at HZ.out
        have hfR := fun k => free_at (k := k) HZ.out
        clear hq
        go_wp2_with ((go_at_call 29; refine (HH2.out _).mono ?_; rintro e w' ⟨rfl, hw⟩; replace hw := hw.symm; subst hw))
        refine bodyPost_ret (v := tokV 6 0 0 t (t.length : Int) 0) (by simp [tokV, results, Tryd.results17, go_sem, r0, r1, r2, r3]) rfl ⟨_, rfl, by rw [HP.out]; exact tokR_ok (by omega), grown_own HV.out (Nat.le_refl _) (four_g _ _ _ _ _ _)⟩
    · obtain rfl : i = 26 := by omega
      have HP := hide (show pickT s = .error 90 by rw [pickT, pick_none (ts := signs) HN.out])
      go_wp2_with (go_at_call 34; refine (fail_at _ _).mono ?_; unfold tokV; rintro e wk ⟨rfl, hg⟩; have ZR := hide (keep_n HZ.out hg); have HG := hide (grown_trans HV.out hg); clear hg; obtain ⟨r0, r1, r2, r3⟩ := four_at ZR.out; have hfR := fun k => free_at (k := k) ZR.out)
      refine bodyPost_ret (v := tokV 0 0 0 [] 0 90) (by simp [tokV, results, Tryd.results17, go_sem, r0, r1, r2, r3]) rfl ⟨_, rfl, by rw [HP.out]; exact tokR_no, grown_own HG.out (Nat.le_refl _) (four_g _ _ _ _ _ _)⟩
theorem first_at (s : List UInt8) (w : World) (tb : Nat) (T : Tb w tb) (A : Gt w) (hs : s.length ≤ 900000) :
    Calls Tryd.prog 17 #[.pointer (some ⟨tb, 0, none⟩), .string (bs s)] w fun e w' => ∃ v, e = .returned v ∧ TkR 0 (oneT s 0) v ∧ w.grownBy w' none := by
  cases s with
  | nil => exact (show oneT [] 0 = pickT [] by rw [pick_nil]; rfl) ▸ first_sign [] rfl rfl rfl w tb T A (by simp)
  | cons c r =>
    have hr : r.length ≤ 900000 := by simp at hs; omega
    cases hl : letN c
    · cases hd : digN c
      · by_cases hq : c = 34
        · subst hq
          exact first_quo r w tb T hr
        · rw [one_pick hl hd hq]
          refine first_sign (c :: r) ?_ ?_ ?_ w tb T A (by simp; omega)
          · rw [List.takeWhile_cons, if_neg (by simp [hl])]; rfl
          · rw [List.takeWhile_cons, if_neg (by simp [hd])]; rfl
          · rw [pre_one]; simpa using hq
      · exact first_dig c r hd w tb T A hr
    · exact first_let c r hl w tb T hr
end Go.Proofs.YthnkkcamfcmhmaaDoor.Lx
