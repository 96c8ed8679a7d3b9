/-
  Package token: word; what the tables of Go's own packages must hold; number.
-/
import Derived.Test.YthnkkcamfcmhmaaDoorPk2b
import Derived.Test.YthnkkcamfcmhmaaDoorPn3
import Derived.DeepKeys4
namespace Go.Proofs.YthnkkcamfcmhmaaDoor.Lx
open Go.RowKit Go.Maps Go.Proofs.YthnkkcamfcmhmaaDoor.Tx Go.Proofs.YthnkkcamfcmhmaaDoor.Mp
set_option linter.unusedVariables false
set_option linter.unusedSimpArgs false
set_option maxRecDepth 100000

theorem laidO : laidOutB Tryd.prog = true := by kernel_rfl
theorem LKs : Keyed Tryd.prog 9 := string_keyed Tryd.underlying9
theorem isK_str {s : List UInt8} (h : s.length ≤ maxLen) : IsK Tryd.prog 9 (.string (bs s)) := by
  refine ⟨.string s, ?_⟩
  unfold keyOf
  rw [Tryd.underlying9]
  show mapKey Tryd.prog 9 (.string (bs s)) = _
  unfold mapKey
  rw [Tryd.underlying9]
  show (if (bs s).size ≤ maxLen then some (Lit.string (bs s).data.toList) else none) = _
  rw [if_pos (by rw [bs_size]; exact h)]
  rfl
theorem zero_int (w : World) : (zeroValue 3).run Tryd.prog w = .ok (.int .i64 0) w := by kernel_rfl
theorem str_inj {a b : List UInt8} (h : Value.string (bs a) = .string (bs b)) : a = b := by
  injection h with h
  exact bs_inj h
/- A text looked up among the keywords. -/
theorem look_key {w : World} {mb : Nat} (h : MapL Tryd.prog 9 w mb keyPs) {x : List UInt8} (hx : x.length ≤ maxLen) : (Instr.lookup 65 (.map (some mb)) (.string (bs x)) true).run Tryd.prog w = .ok (.tuple #[.int .i64 (if keyB x = true then 2 else 0), .bool (keyB x)]) w := by
  cases hk : keyB x with
  | true =>
    have hm := has_mem hk
    have := h.look_ok LKs Tryd.underlying65 (zero_int w) (isK_str hx) (v := .int .i64 2) (List.mem_map.2 ⟨x, hm, rfl⟩) (fun p hp _ => by
      obtain ⟨k, _, rfl⟩ := List.mem_map.1 hp
      rfl)
    rw [this]
    rfl
  | false =>
    have := h.look_no LKs Tryd.underlying65 (zero_int w) (isK_str hx) (fun p hp e => by
      obtain ⟨k, hk', rfl⟩ := List.mem_map.1 hp
      have e2 : k = x := str_inj e
      rw [e2] at hk'
      have : keyB x = true := by unfold keyB hasT; simpa using hk'
      rw [hk] at this
      cases this)
    rw [this]
    rfl
set_option maxHeartbeats 4000000 in
theorem word_at (c : UInt8) (r : List UInt8) (hc : letN c = true) (w : World) (tb : Nat) (T : Tb w tb) (hs : r.length ≤ 900000) :
    Calls Tryd.prog 31 #[.pointer (some ⟨tb, 0, none⟩), .string (bs (c :: r))] w fun e w' => ∃ v, e = .returned v ∧ TkR 0 (oneT (c :: r) 0) v ∧ w.grownBy w' none := by
  have b0 : (⟨#[]⟩ : ByteArray) = bs [] := rfl
  obtain ⟨V, hV⟩ : ∃ V, w.alloc (.cells #[.int .i64 0, .string (bs []), .int .i64 0, .int .i64 0] 37) = V := ⟨_, rfl⟩
  have HZ := hide (zr_new w)
  have HV := hide (alloc_g w (.cells #[.int .i64 0, .string (bs []), .int .i64 0, .int .i64 0] 37))
  rw [hV] at HZ HV
  have TV := T.kept HV.out
  have HO := hide (oneT_let (c := c) (r := r) (a := 0) hc)
  obtain ⟨S, hS⟩ : ∃ S, c :: r = S := ⟨_, rfl⟩
  have hsz := bs_size S
  have hlen : S.length = r.length + 1 := by rw [← hS]; rfl
  rw [hS] at HO ⊢
  have HR := hide (run_any S 6 ldN and_ld V tb TV (by omega))
  have hbl := tw_le ldN S
  have hx1 : (bs S).extract 0 (S.takeWhile ldN).length = bs (S.takeWhile ldN) := by rw [ext_begin, take_tw]
  obtain ⟨x, hx⟩ : ∃ x, S.takeWhile ldN = x := ⟨_, rfl⟩
  rw [hx] at HR hbl HO hx1
  obtain ⟨mb, hmc, hm⟩ := TV.keys
  have hmlt := TV.lt
  have HLk := hide (fun W (h : V.grownBy W none) => look_key (hm.kept h (by simp)) (x := x) (by unfold maxLen; omega))
  have j1 : (x.length : Int) ≤ S.length := by omega
  have j2 : (x.length : Int) ≤ 1000000 := by omega
  clear hx hS T TV hm hc hlen
  by_cases h24 : 24 < x.length
  · have hk : keyB x = false := by
      cases hk : keyB x with
      | false => rfl
      | true => have := keys_len _ (has_mem hk); omega
    rw [if_neg (by simp [hk]), if_pos h24] at HO
    have k24 : (24 : Int) < x.length := by omega
    clear HLk hk hmc
    go_enter Tryd.func31, Tryd.ntmps31
    go_wp2_with (first | (go_at_call 28; refine HR.out.mono ?_; rintro e w1 ⟨rfl, hg⟩; replace HZ := hide (keep_n HZ.out hg); replace HV := hide (grown_trans HV.out hg); clear hg; obtain ⟨r0, r1, r2, r3⟩ := four_at HZ.out; have hfR := fun k => free_at (k := k) HZ.out) | (go_at_call 34; refine (fail_at _ _).mono ?_; unfold tokV; rintro e wk ⟨rfl, hg⟩; have ZR := hide (keep_n HZ.out hg); have HG := hide (grown_trans HV.out hg); clear hg; obtain ⟨r0, r1, r2, r3⟩ := four_at ZR.out; have hfR := fun k => free_at (k := k) ZR.out))
    refine bodyPost_ret (v := tokV 0 0 0 [] 0 2) (by simp [tokV, results, Tryd.results31, go_sem, r0, r1, r2, r3]) rfl ⟨_, rfl, by rw [HO.out]; exact tokR_no, grown_own HG.out (Nat.le_refl _) (four_g _ _ _ _ _ _)⟩
  · have k24 : ¬ (24 : Int) < x.length := by omega
    cases hk : keyB x
    · rw [hk] at HO HLk
      rw [if_neg (by simp), if_neg h24] at HO
      simp only [Bool.false_eq_true, if_false] at HLk
      clear hk h24
      go_enter Tryd.func31, Tryd.ntmps31
      go_wp2_with (first | (go_at_call 28; refine HR.out.mono ?_; rintro e w1 ⟨rfl, hg⟩; have hmc1 := (gcell hg _ _ hmlt).trans hmc; have hlk1 := fun n => HLk.out (w1.drewN n) (dr_g n hg); replace HZ := hide (keep_n HZ.out hg); replace HV := hide (grown_trans HV.out hg); clear hg; obtain ⟨r0, r1, r2, r3⟩ := four_at HZ.out; have hfR := fun k => free_at (k := k) HZ.out) | (go_at_call 34; refine (fail_at _ _).mono ?_; unfold tokV; rintro e wk ⟨rfl, hg⟩; have ZR := hide (keep_n HZ.out hg); have HG := hide (grown_trans HV.out hg); clear hg; obtain ⟨r0, r1, r2, r3⟩ := four_at ZR.out; have hfR := fun k => free_at (k := k) ZR.out))
      (go_quiet (fail); replace HZ := hide (keep_d nq HZ.out); replace HV := hide (dr_g nq HV.out); obtain ⟨r0, r1, r2, r3⟩ := four_at HZ.out; have hfR := fun k => free_at (k := k) HZ.out; generalize w1.drewN nq = W2 at *)
      go_wp2
      refine bodyPost_ret (v := tokV 1 0 0 x (x.length : Int) 0) (by simp [tokV, results, Tryd.results31, go_sem, r0, r1, r2, r3]) rfl ⟨_, rfl, by rw [HO.out]; exact tokR_ok (by omega), grown_own HV.out (Nat.le_refl _) (four_g _ _ _ _ _ _)⟩
    · rw [hk] at HO HLk
      rw [if_pos rfl] at HO
      simp only [if_true] at HLk
      clear hk h24
      go_enter Tryd.func31, Tryd.ntmps31
      go_wp2_with (first | (go_at_call 28; refine HR.out.mono ?_; rintro e w1 ⟨rfl, hg⟩; have hmc1 := (gcell hg _ _ hmlt).trans hmc; have hlk1 := fun n => HLk.out (w1.drewN n) (dr_g n hg); replace HZ := hide (keep_n HZ.out hg); replace HV := hide (grown_trans HV.out hg); clear hg; obtain ⟨r0, r1, r2, r3⟩ := four_at HZ.out; have hfR := fun k => free_at (k := k) HZ.out) | (go_at_call 34; refine (fail_at _ _).mono ?_; unfold tokV; rintro e wk ⟨rfl, hg⟩; have ZR := hide (keep_n HZ.out hg); have HG := hide (grown_trans HV.out hg); clear hg; obtain ⟨r0, r1, r2, r3⟩ := four_at ZR.out; have hfR := fun k => free_at (k := k) ZR.out))
      (go_quiet (fail); replace HZ := hide (keep_d nq HZ.out); replace HV := hide (dr_g nq HV.out); obtain ⟨r0, r1, r2, r3⟩ := four_at HZ.out; have hfR := fun k => free_at (k := k) HZ.out; generalize w1.drewN nq = W2 at *)
      go_wp2
      refine bodyPost_ret (v := tokV 2 0 0 x (x.length : Int) 0) (by simp [tokV, results, Tryd.results31, go_sem, r0, r1, r2, r3]) rfl ⟨_, rfl, by rw [HO.out]; exact tokR_ok (by omega), grown_own HV.out (Nat.le_refl _) (four_g _ _ _ _ _ _)⟩
/- Digits all, or not. -/
theorem tw_short {p : UInt8 → Bool} : ∀ {x : List UInt8}, x.all p = false → (x.takeWhile p).length < x.length
  | [], h => by simp at h
  | c :: r, h => by
    rw [List.takeWhile_cons]
    cases hc : p c
    · simp
    · simp only [List.all_cons, hc, Bool.true_and] at h
      have := tw_short h
      simp
      omega
theorem numT_un (t : List UInt8) (a : Int) : numT t a = if (t.drop (t.takeWhile hexN).length).head? = some 72 then numV 4294967296 (valB 16 (t.takeWhile hexN)) ((t.takeWhile hexN).length + 1) 3 a
    else if (t.drop (t.takeWhile hexN).length).head? = some 88 then numV 256 (valB 16 (t.takeWhile hexN)) ((t.takeWhile hexN).length + 1) 4 a
    else if (t.takeWhile hexN).all digN = false then .error 90
    else if (t.drop (t.takeWhile hexN).length).head? = some 46 ∧ (t.drop (t.takeWhile hexN).length).tail.head? ≠ some 46 then .error 90
    else numV 2147483648 (valB 10 (t.takeWhile hexN)) (t.takeWhile hexN).length 3 a := rfl
theorem flo_is (y : List UInt8) : floB y = decide (y.head? = some 46 ∧ y.tail.head? ≠ some 46) := by
  rw [floB, pre_one, pre_two]
  generalize y.head? = a
  generalize y.tail.head? = b
  by_cases h1 : a = some 46 <;> by_cases h2 : b = some 46 <;> simp [h1, h2]
theorem numV_ok {lim v len : Nat} {k a : Int} (h : v < lim) : numV lim v len k a = .ok (⟨k, [], if 2147483648 ≤ v then (v : Int) - 4294967296 else v, a⟩, len) := by unfold numV; rw [if_neg (by omega)]
theorem numV_no {lim v len : Nat} {k a : Int} (h : ¬ v < lim) : numV lim v len k a = .error 91 := by unfold numV; rw [if_pos (by omega)]
theorem wrap32 (v : Nat) (h : (v : Int) ≤ 4294967295) : IntKind.i32.wrap (v : Int) = if 2147483648 ≤ v then (v : Int) - 4294967296 else v := by
  rw [IntKind.wrap_i32]
  split <;> omega
set_option maxHeartbeats 8000000 in
theorem number_at' (c : UInt8) (r : List UInt8) (hc : digN c = true) (w : World) (tb : Nat) (T : Tb w tb) (A : Gt w) (hs : r.length ≤ 900000) :
    Calls Tryd.prog 32 #[.pointer (some ⟨tb, 0, none⟩), .string (bs (c :: r))] w fun e w' => ∃ v, e = .returned v ∧ TkR 0 (oneT (c :: r) 0) v ∧ w.grownBy w' none := by
  have b0 : (⟨#[]⟩ : ByteArray) = bs [] := rfl
  have b72 : (⟨#[72]⟩ : ByteArray) = bs [72] := rfl
  have b88 : (⟨#[88]⟩ : ByteArray) = bs [88] := rfl
  obtain ⟨V, hV⟩ : ∃ V, w.alloc (.cells #[.int .i64 0, .string (bs []), .int .i64 0, .int .i64 0] 37) = V := ⟨_, rfl⟩
  have HZ := hide (zr_new w)
  have HV := hide (alloc_g w (.cells #[.int .i64 0, .string (bs []), .int .i64 0, .int .i64 0] 37))
  rw [hV] at HZ HV
  have TV := T.kept HV.out
  have HAw := hide A
  have HO := hide (show oneT (c :: r) 0 = _ from (oneT_num hc).trans (numT_un (c :: r) 0))
  have hpos := tw_pos (r := r) (p := hexN) (c := c) (by simp [hexN, hexI, show digI c.toNat = true from hc])
  obtain ⟨S, hS⟩ : ∃ S, c :: r = S := ⟨_, rfl⟩
  have hsz := bs_size S
  have hlen : S.length = r.length + 1 := by rw [← hS]; rfl
  rw [hS] at HO hpos ⊢
  have HR := hide (run_any S 8 hexN and_hx V tb TV (by omega))
  have hbl := tw_le hexN S
  have hx1 : (bs S).extract 0 (S.takeWhile hexN).length = bs (S.takeWhile hexN) := by rw [ext_begin, take_tw]
  have hx2 := ext_end S (S.takeWhile hexN).length
  have hall := tw_allp hexN S
  obtain ⟨x, hx⟩ : ∃ x, S.takeWhile hexN = x := ⟨_, rfl⟩
  rw [hx] at HR hbl HO hx1 hx2 hall hpos
  obtain ⟨y, hy⟩ : ∃ y, S.drop x.length = y := ⟨_, rfl⟩
  rw [hy] at HO hx2
  have hne : x ≠ [] := by rintro rfl; simp at hpos
  have hxl : x.length ≤ 1000000 := by omega
  have j1 : (x.length : Int) ≤ S.length := by omega
  have j2 : (x.length : Int) ≤ 1000000 := by omega
  have HRd := hide (fun W (h : V.grownBy W none) => run_any x 4 digN and_di W tb (TV.kept h) hxl)
  have HA := hide hall
  have HNe := hide hne
  clear hx hS T TV hc A hy hall hpos hne hlen
  by_cases h72 : y.head? = some 72
  · rw [if_pos h72] at HO
    have p72 : preB [72] y = true := by rw [pre_one]; simpa using h72
    clear h72 HRd
    by_cases hv : valB 16 x < 4294967296
    · have HP := hide (fun W (h : Gt W) => pu32_ok x HNe.out hxl HA.out (by omega) W)
      rw [numV_ok hv] at HO
      obtain ⟨vn, hvn⟩ : ∃ vn, valB 16 x = vn := ⟨_, rfl⟩
      rw [hvn] at HP HO hv
      have hv' : (vn : Int) ≤ 4294967295 := by omega
      have hw32 := wrap32 vn hv'
      obtain ⟨q, hq⟩ : ∃ q : Int, (if 2147483648 ≤ vn then (vn : Int) - 4294967296 else vn) = q := ⟨_, rfl⟩
      have hq0 : -2147483648 ≤ q ∧ q ≤ 2147483647 := by rw [← hq]; split <;> omega
      obtain ⟨q1, q2⟩ := hq0
      rw [hq] at HO hw32
      clear hvn hv hq
      go_enter Tryd.func32, Tryd.ntmps32
      go_wp2_with (first | (go_at_call 28; refine HR.out.mono ?_; rintro e w1 ⟨rfl, hg⟩; replace HZ := hide (keep_n HZ.out hg); replace HV := hide (grown_trans HV.out hg); have HT2 := hide hg; clear hg) | (go_at_call 29; refine (hp_any _ _ _).mono ?_; rintro e w' ⟨rfl, hw⟩; replace hw := hw.symm; subst hw))
      (go_quiet (fail); replace HZ := hide (keep_d nq HZ.out); replace HV := hide (dr_g nq HV.out); replace HT2 := hide (dr_g nq HT2.out); obtain ⟨r0, r1, r2, r3⟩ := four_at HZ.out; have hfR := fun k => free_at (k := k) HZ.out; generalize w1.drewN nq = W2 at *)
      go_wp2_with (first | (go_at_call 29; refine (hp_any _ _ _).mono ?_; rintro e w' ⟨rfl, hw⟩; replace hw := hw.symm; subst hw) | (go_at_call 45; refine (HP.out _ (HAw.out.g HV.out)).mono ?_; rintro e wp ⟨rfl, hg⟩; have ZP := hide (keep_n HZ.out hg); have GP := hide (grown_trans HV.out hg); clear hg) | (go_at_call 46; refine (counted_ok _ _ _ _).mono ?_; unfold tokV; rintro e wk ⟨rfl, hg⟩; have ZR := hide (keep_n ZP.out hg); have HG := hide (grown_trans GP.out hg); clear hg; obtain ⟨r0, r1, r2, r3⟩ := four_at ZR.out; have hfR := fun k => free_at (k := k) ZR.out))
      refine bodyPost_ret (v := tokV 3 q 0 [] ((x.length : Int) + 1) 0) (by simp [tokV, results, Tryd.results32, go_sem, r0, r1, r2, r3]) rfl ⟨_, rfl, by rw [HO.out]; exact tokR_ok (by omega), grown_own HG.out (Nat.le_refl _) (four_g _ _ _ _ _ _)⟩
    · have HP := hide (fun W (h : Gt W) => pu32_no x HNe.out hxl HA.out (by omega) W h)
      rw [numV_no hv] at HO
      clear hv
      go_enter Tryd.func32, Tryd.ntmps32
      go_wp2_with (first | (go_at_call 28; refine HR.out.mono ?_; rintro e w1 ⟨rfl, hg⟩; replace HZ := hide (keep_n HZ.out hg); replace HV := hide (grown_trans HV.out hg); have HT2 := hide hg; clear hg) | (go_at_call 29; refine (hp_any _ _ _).mono ?_; rintro e w' ⟨rfl, hw⟩; replace hw := hw.symm; subst hw))
      (go_quiet (fail); replace HZ := hide (keep_d nq HZ.out); replace HV := hide (dr_g nq HV.out); replace HT2 := hide (dr_g nq HT2.out); obtain ⟨r0, r1, r2, r3⟩ := four_at HZ.out; have hfR := fun k => free_at (k := k) HZ.out; generalize w1.drewN nq = W2 at *)
      go_wp2_with (first | (go_at_call 29; refine (hp_any _ _ _).mono ?_; rintro e w' ⟨rfl, hw⟩; replace hw := hw.symm; subst hw) | (go_at_call 45; refine (HP.out _ (HAw.out.g HV.out)).mono ?_; rintro e wp ⟨pv, te, pe, rfl, v0, v1, hg⟩; have ZP := hide (keep_n HZ.out hg); have GP := hide (grown_trans HV.out hg); clear hg; obtain ⟨q32, hq32⟩ : ∃ q, IntKind.i32.wrap pv = q := ⟨_, rfl⟩) | (go_at_call 46; refine (counted_no _ _ _ _ _ _).mono ?_; unfold tokV; rintro e wk ⟨rfl, hg⟩; have ZR := hide (keep_n ZP.out hg); have HG := hide (grown_trans GP.out hg); clear hg; obtain ⟨r0, r1, r2, r3⟩ := four_at ZR.out; have hfR := fun k => free_at (k := k) ZR.out))
      refine bodyPost_ret (v := tokV 0 0 0 [] 0 91) (by simp [tokV, results, Tryd.results32, go_sem, r0, r1, r2, r3]) rfl ⟨_, rfl, by rw [HO.out]; exact tokR_no, grown_own HG.out (Nat.le_refl _) (four_g _ _ _ _ _ _)⟩
  · rw [if_neg h72] at HO
    have p72 : preB [72] y = false := by rw [pre_one]; simpa using h72
    clear h72
    by_cases h88 : y.head? = some 88
    · rw [if_pos h88] at HO
      have p88 : preB [88] y = true := by rw [pre_one]; simpa using h88
      clear h88 HRd
      by_cases hv : valB 16 x < 256
      · have HP := hide (fun W (h : Gt W) => pu8_ok x HNe.out hxl HA.out (by omega) W)
        rw [numV_ok hv, if_neg (by omega)] at HO
        obtain ⟨vn, hvn⟩ : ∃ vn, valB 16 x = vn := ⟨_, rfl⟩
        rw [hvn] at HP HO hv
        have hv' : (vn : Int) ≤ 255 := by omega
        clear hvn hv
        go_enter Tryd.func32, Tryd.ntmps32
        go_wp2_with (first | (go_at_call 28; refine HR.out.mono ?_; rintro e w1 ⟨rfl, hg⟩; replace HZ := hide (keep_n HZ.out hg); replace HV := hide (grown_trans HV.out hg); have HT2 := hide hg; clear hg) | (go_at_call 29; refine (hp_any _ _ _).mono ?_; rintro e w' ⟨rfl, hw⟩; replace hw := hw.symm; subst hw))
        (go_quiet (fail); replace HZ := hide (keep_d nq HZ.out); replace HV := hide (dr_g nq HV.out); replace HT2 := hide (dr_g nq HT2.out); obtain ⟨r0, r1, r2, r3⟩ := four_at HZ.out; have hfR := fun k => free_at (k := k) HZ.out; generalize w1.drewN nq = W2 at *)
        go_wp2_with (first | (go_at_call 29; refine (hp_any _ _ _).mono ?_; rintro e w' ⟨rfl, hw⟩; replace hw := hw.symm; subst hw) | (go_at_call 45; refine (HP.out _ (HAw.out.g HV.out)).mono ?_; rintro e wp ⟨rfl, hg⟩; have ZP := hide (keep_n HZ.out hg); have GP := hide (grown_trans HV.out hg); clear hg) | (go_at_call 46; refine (counted_ok _ _ _ _).mono ?_; unfold tokV; rintro e wk ⟨rfl, hg⟩; have ZR := hide (keep_n ZP.out hg); have HG := hide (grown_trans GP.out hg); clear hg; obtain ⟨r0, r1, r2, r3⟩ := four_at ZR.out; have hfR := fun k => free_at (k := k) ZR.out))
        refine bodyPost_ret (v := tokV 4 (vn : Int) 0 [] ((x.length : Int) + 1) 0) (by simp [tokV, results, Tryd.results32, go_sem, r0, r1, r2, r3]) rfl ⟨_, rfl, by rw [HO.out]; exact tokR_ok (by omega), grown_own HG.out (Nat.le_refl _) (four_g _ _ _ _ _ _)⟩
      · have HP := hide (fun W (h : Gt W) => pu8_no x HNe.out hxl HA.out (by omega) W h)
        rw [numV_no hv] at HO
        clear hv
        go_enter Tryd.func32, Tryd.ntmps32
        go_wp2_with (first | (go_at_call 28; refine HR.out.mono ?_; rintro e w1 ⟨rfl, hg⟩; replace HZ := hide (keep_n HZ.out hg); replace HV := hide (grown_trans HV.out hg); have HT2 := hide hg; clear hg) | (go_at_call 29; refine (hp_any _ _ _).mono ?_; rintro e w' ⟨rfl, hw⟩; replace hw := hw.symm; subst hw))
        (go_quiet (fail); replace HZ := hide (keep_d nq HZ.out); replace HV := hide (dr_g nq HV.out); replace HT2 := hide (dr_g nq HT2.out); obtain ⟨r0, r1, r2, r3⟩ := four_at HZ.out; have hfR := fun k => free_at (k := k) HZ.out; generalize w1.drewN nq = W2 at *)
        go_wp2_with (first | (go_at_call 29; refine (hp_any _ _ _).mono ?_; rintro e w' ⟨rfl, hw⟩; replace hw := hw.symm; subst hw) | (go_at_call 45; refine (HP.out _ (HAw.out.g HV.out)).mono ?_; rintro e wp ⟨pv, te, pe, rfl, v0, v1, hg⟩; have ZP := hide (keep_n HZ.out hg); have GP := hide (grown_trans HV.out hg); clear hg; obtain ⟨q32, hq32⟩ : ∃ q, IntKind.i32.wrap pv = q := ⟨_, rfl⟩) | (go_at_call 46; refine (counted_no _ _ _ _ _ _).mono ?_; unfold tokV; rintro e wk ⟨rfl, hg⟩; have ZR := hide (keep_n ZP.out hg); have HG := hide (grown_trans GP.out hg); clear hg; obtain ⟨r0, r1, r2, r3⟩ := four_at ZR.out; have hfR := fun k => free_at (k := k) ZR.out))
        refine bodyPost_ret (v := tokV 0 0 0 [] 0 91) (by simp [tokV, results, Tryd.results32, go_sem, r0, r1, r2, r3]) rfl ⟨_, rfl, by rw [HO.out]; exact tokR_no, grown_own HG.out (Nat.le_refl _) (four_g _ _ _ _ _ _)⟩
    · rw [if_neg h88] at HO
      have p88 : preB [88] y = false := by rw [pre_one]; simpa using h88
      clear h88
      cases hd : x.all digN
      · rw [if_pos hd] at HO
        have hsh := tw_short hd
        obtain ⟨m, hm⟩ : ∃ m, (x.takeWhile digN).length = m := ⟨_, rfl⟩
        rw [hm] at HRd hsh
        have k1 : (m : Int) < x.length := by omega
        clear hm hd
        go_enter Tryd.func32, Tryd.ntmps32
        go_wp2_with (first | (go_at_call 28; refine HR.out.mono ?_; rintro e w1 ⟨rfl, hg⟩; replace HZ := hide (keep_n HZ.out hg); replace HV := hide (grown_trans HV.out hg); have HT2 := hide hg; clear hg) | (go_at_call 29; refine (hp_any _ _ _).mono ?_; rintro e w' ⟨rfl, hw⟩; replace hw := hw.symm; subst hw))
        (go_quiet (fail); replace HZ := hide (keep_d nq HZ.out); replace HV := hide (dr_g nq HV.out); replace HT2 := hide (dr_g nq HT2.out); obtain ⟨r0, r1, r2, r3⟩ := four_at HZ.out; have hfR := fun k => free_at (k := k) HZ.out; generalize w1.drewN nq = W2 at *)
        go_wp2_with (first | (go_at_call 29; refine (hp_any _ _ _).mono ?_; rintro e w' ⟨rfl, hw⟩; replace hw := hw.symm; subst hw) | (go_at_call 28; refine (HRd.out _ HT2.out).mono ?_; rintro e w2 ⟨rfl, hg⟩; replace HZ := hide (keep_n HZ.out hg); replace HV := hide (grown_trans HV.out hg); clear hg) | (go_at_call 47; refine (floats_at _ _).mono ?_; rintro e w' ⟨rfl, hw⟩; replace hw := hw.symm; subst hw) | (go_at_call 34; refine (fail_at _ _).mono ?_; unfold tokV; rintro e wk ⟨rfl, hg⟩; have ZR := hide (keep_n HZ.out hg); have HG := hide (grown_trans HV.out hg); clear hg; obtain ⟨r0, r1, r2, r3⟩ := four_at ZR.out; have hfR := fun k => free_at (k := k) ZR.out))
        refine bodyPost_ret (v := tokV 0 0 0 [] 0 90) (by simp [tokV, results, Tryd.results32, go_sem, r0, r1, r2, r3]) rfl ⟨_, rfl, by rw [HO.out]; exact tokR_no, grown_own HG.out (Nat.le_refl _) (four_g _ _ _ _ _ _)⟩
      · rw [if_neg (by simp [hd])] at HO
        rw [tw_all hd] at HRd
        have HD := hide hd
        clear hd
        have k1 : ¬ (x.length : Int) < x.length := by omega
        by_cases hf : y.head? = some 46 ∧ y.tail.head? ≠ some 46
        · rw [if_pos hf] at HO
          have pf : floB y = true := by rw [flo_is]; simpa using hf
          clear hf
          go_enter Tryd.func32, Tryd.ntmps32
          go_wp2_with (first | (go_at_call 28; refine HR.out.mono ?_; rintro e w1 ⟨rfl, hg⟩; replace HZ := hide (keep_n HZ.out hg); replace HV := hide (grown_trans HV.out hg); have HT2 := hide hg; clear hg) | (go_at_call 29; refine (hp_any _ _ _).mono ?_; rintro e w' ⟨rfl, hw⟩; replace hw := hw.symm; subst hw))
          (go_quiet (fail); replace HZ := hide (keep_d nq HZ.out); replace HV := hide (dr_g nq HV.out); replace HT2 := hide (dr_g nq HT2.out); obtain ⟨r0, r1, r2, r3⟩ := four_at HZ.out; have hfR := fun k => free_at (k := k) HZ.out; generalize w1.drewN nq = W2 at *)
          go_wp2_with (first | (go_at_call 29; refine (hp_any _ _ _).mono ?_; rintro e w' ⟨rfl, hw⟩; replace hw := hw.symm; subst hw) | (go_at_call 28; refine (HRd.out _ HT2.out).mono ?_; rintro e w2 ⟨rfl, hg⟩; replace HZ := hide (keep_n HZ.out hg); replace HV := hide (grown_trans HV.out hg); clear hg) | (go_at_call 47; refine (floats_at _ _).mono ?_; rintro e w' ⟨rfl, hw⟩; replace hw := hw.symm; subst hw) | (go_at_call 34; refine (fail_at _ _).mono ?_; unfold tokV; rintro e wk ⟨rfl, hg⟩; have ZR := hide (keep_n HZ.out hg); have HG := hide (grown_trans HV.out hg); clear hg; obtain ⟨r0, r1, r2, r3⟩ := four_at ZR.out; have hfR := fun k => free_at (k := k) ZR.out))
          refine bodyPost_ret (v := tokV 0 0 0 [] 0 90) (by simp [tokV, results, Tryd.results32, go_sem, r0, r1, r2, r3]) rfl ⟨_, rfl, by rw [HO.out]; exact tokR_no, grown_own HG.out (Nat.le_refl _) (four_g _ _ _ _ _ _)⟩
        · rw [if_neg hf] at HO
          have pf : floB y = false := by rw [flo_is]; exact decide_eq_false hf
          clear hf
          by_cases hv : valB 10 x < 2147483648
          · have HP := hide (fun W (h : Gt W) => pi_ok x HNe.out hxl HD.out hv W)
            rw [numV_ok hv, if_neg (by omega)] at HO
            obtain ⟨vn, hvn⟩ : ∃ vn, valB 10 x = vn := ⟨_, rfl⟩
            rw [hvn] at HP HO hv
            have hv' : (vn : Int) ≤ 2147483647 := by omega
            clear hvn hv
            go_enter Tryd.func32, Tryd.ntmps32
            go_wp2_with (first | (go_at_call 28; refine HR.out.mono ?_; rintro e w1 ⟨rfl, hg⟩; replace HZ := hide (keep_n HZ.out hg); replace HV := hide (grown_trans HV.out hg); have HT2 := hide hg; clear hg) | (go_at_call 29; refine (hp_any _ _ _).mono ?_; rintro e w' ⟨rfl, hw⟩; replace hw := hw.symm; subst hw))
            (go_quiet (fail); replace HZ := hide (keep_d nq HZ.out); replace HV := hide (dr_g nq HV.out); replace HT2 := hide (dr_g nq HT2.out); obtain ⟨r0, r1, r2, r3⟩ := four_at HZ.out; have hfR := fun k => free_at (k := k) HZ.out; generalize w1.drewN nq = W2 at *)
            go_wp2_with (first | (go_at_call 29; refine (hp_any _ _ _).mono ?_; rintro e w' ⟨rfl, hw⟩; replace hw := hw.symm; subst hw) | (go_at_call 28; refine (HRd.out _ HT2.out).mono ?_; rintro e w2 ⟨rfl, hg⟩; replace HZ := hide (keep_n HZ.out hg); replace HV := hide (grown_trans HV.out hg); clear hg) | (go_at_call 47; refine (floats_at _ _).mono ?_; rintro e w' ⟨rfl, hw⟩; replace hw := hw.symm; subst hw) | (go_at_call 48; refine (HP.out _ (HAw.out.g HV.out)).mono ?_; rintro e wp ⟨rfl, hg⟩; have ZP := hide (keep_n HZ.out hg); have GP := hide (grown_trans HV.out hg); clear hg) | (go_at_call 46; refine (counted_ok _ _ _ _).mono ?_; unfold tokV; rintro e wk ⟨rfl, hg⟩; have ZR := hide (keep_n ZP.out hg); have HG := hide (grown_trans GP.out hg); clear hg; obtain ⟨r0, r1, r2, r3⟩ := four_at ZR.out; have hfR := fun k => free_at (k := k) ZR.out))
            refine bodyPost_ret (v := tokV 3 (vn : Int) 0 [] (x.length : Int) 0) (by simp [tokV, results, Tryd.results32, go_sem, r0, r1, r2, r3]) rfl ⟨_, rfl, by rw [HO.out]; exact tokR_ok (by omega), grown_own HG.out (Nat.le_refl _) (four_g _ _ _ _ _ _)⟩
          · have HP := hide (fun W (h : Gt W) => pi_no x HNe.out hxl HD.out hv W h)
            rw [numV_no hv] at HO
            clear hv
            go_enter Tryd.func32, Tryd.ntmps32
            go_wp2_with (first | (go_at_call 28; refine HR.out.mono ?_; rintro e w1 ⟨rfl, hg⟩; replace HZ := hide (keep_n HZ.out hg); replace HV := hide (grown_trans HV.out hg); have HT2 := hide hg; clear hg) | (go_at_call 29; refine (hp_any _ _ _).mono ?_; rintro e w' ⟨rfl, hw⟩; replace hw := hw.symm; subst hw))
            (go_quiet (fail); replace HZ := hide (keep_d nq HZ.out); replace HV := hide (dr_g nq HV.out); replace HT2 := hide (dr_g nq HT2.out); obtain ⟨r0, r1, r2, r3⟩ := four_at HZ.out; have hfR := fun k => free_at (k := k) HZ.out; generalize w1.drewN nq = W2 at *)
            go_wp2_with (first | (go_at_call 29; refine (hp_any _ _ _).mono ?_; rintro e w' ⟨rfl, hw⟩; replace hw := hw.symm; subst hw) | (go_at_call 28; refine (HRd.out _ HT2.out).mono ?_; rintro e w2 ⟨rfl, hg⟩; replace HZ := hide (keep_n HZ.out hg); replace HV := hide (grown_trans HV.out hg); clear hg) | (go_at_call 47; refine (floats_at _ _).mono ?_; rintro e w' ⟨rfl, hw⟩; replace hw := hw.symm; subst hw) | (go_at_call 48; refine (HP.out _ (HAw.out.g HV.out)).mono ?_; rintro e wp ⟨pv, te, pe, rfl, hg⟩; have ZP := hide (keep_n HZ.out hg); have GP := hide (grown_trans HV.out hg); clear hg) | (go_at_call 46; refine (counted_no _ _ _ _ _ _).mono ?_; unfold tokV; rintro e wk ⟨rfl, hg⟩; have ZR := hide (keep_n ZP.out hg); have HG := hide (grown_trans GP.out hg); clear hg; obtain ⟨r0, r1, r2, r3⟩ := four_at ZR.out; have hfR := fun k => free_at (k := k) ZR.out))
            refine bodyPost_ret (v := tokV 0 0 0 [] 0 91) (by simp [tokV, results, Tryd.results32, go_sem, r0, r1, r2, r3]) rfl ⟨_, rfl, by rw [HO.out]; exact tokR_no, grown_own HG.out (Nat.le_refl _) (four_g _ _ _ _ _ _)⟩
end Go.Proofs.YthnkkcamfcmhmaaDoor.Lx
