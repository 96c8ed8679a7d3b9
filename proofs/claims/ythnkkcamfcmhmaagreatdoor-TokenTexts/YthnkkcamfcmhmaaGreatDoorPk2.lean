/-
  Package token: gap, floats, fail, counted, quoted.
-/
import Derived.Test.YthnkkcamfcmhmaaGreatDoorPk1
import Derived.Test.YthnkkcamfcmhmaaGreatDoorShelf
namespace Go.Proofs.YthnkkcamfcmhmaaGreatDoor.Lx
open Go.RowKit Go.Maps Go.Proofs.YthnkkcamfcmhmaaGreatDoor.Tx Go.Proofs.YthnkkcamfcmhmaaGreatDoor.Mp
set_option linter.unusedVariables false
set_option linter.unusedSimpArgs false
set_option maxRecDepth 100000

theorem hp_any (t p : List UInt8) (w : World) : Calls Tryz.prog 33 #[.string (bs t), .string (bs p)] w fun e w' => e = .returned (.bool (preB p t)) ∧ w' = w := by
  refine (Tryz.strings_HasPrefix (bs t) (bs p) w).mono ?_
  rintro e w' ⟨rfl, rfl⟩
  exact ⟨rfl, rfl⟩
theorem ext_end (s : List UInt8) (n : Nat) : (bs s).extract n s.length = bs (s.drop n) := by
  rw [bs_ext, List.take_of_length_le (by rw [List.length_drop]; omega)]
theorem ext_begin (s : List UInt8) (n : Nat) : (bs s).extract 0 n = bs (s.take n) := by
  rw [bs_ext, List.drop_zero, Nat.sub_zero]
def gapV (x : List UInt8) : Value := .tuple #[.int .i64 ((skP x).1 : Nat), .int .i64 (if (skP x).2 = true then 0 else 90)]
theorem gapV_is {x : List UInt8} {k : Nat} {b : Bool} (h : skP x = (k, b)) : gapV x = .tuple #[.int .i64 (k : Nat), .int .i64 (if b = true then 0 else 90)] := by rw [gapV, h]
set_option maxHeartbeats 4000000 in
theorem gap_at (s : List UInt8) (w : World) (tb : Nat) (T : Tb w tb) (hs : s.length ≤ 1000000) :
    Calls Tryz.prog 19 #[.pointer (some ⟨tb, 0, none⟩), .string (bs s)] w fun e w' => e = .returned (gapV s) ∧ w.grownBy w' none := by
  have hsz := bs_size s
  have HT := hide T
  have b1 : (⟨#[40, 42]⟩ : ByteArray) = bs [40, 42] := rfl
  clear T
  go_enter Tryz.func19, Tryz.ntmps19
  go_wp2
  go_loopw [6, 7] (fun nv zv W => ∃ (n : Nat) (z : Value), n ≤ s.length ∧ nv = .int .i64 n ∧ zv = z ∧ Hid (w.grownBy W none) ∧ Hid (skP s = ((skP (s.drop n)).1 + n, (skP (s.drop n)).2))) (fun nv _ _ => s.length - (intOf nv).toNat)
  case atStart => exact ⟨0, _, Nat.zero_le _, rfl, rfl, hide (g_refl _), hide (by simp)⟩
  case round =>
    obtain ⟨n, z, hn, rfl, rfl, HG, HE⟩ := hrel
    have j0 : (n : Int) ≤ s.length := by omega
    have HR := hide (run_any (s.drop n) 1 blkN and_bl _ tb (HT.out.kept HG.out) (by rw [List.length_drop]; omega))
    have SK1 := skP_run (s.drop n)
    have HNb := hide (drop_tw blkN (s.drop n))
    have hbl := tw_le blkN (s.drop n)
    obtain ⟨b, hb⟩ : ∃ b, ((s.drop n).takeWhile blkN).length = b := ⟨_, rfl⟩
    rw [hb] at HR SK1 HNb hbl
    rw [List.length_drop] at hbl
    rw [List.drop_drop] at SK1 HNb
    obtain ⟨y, hy⟩ : ∃ y, s.drop (n + b) = y := ⟨_, rfl⟩
    have HY := hide hy
    rw [hy] at SK1 HNb
    have hyl : y.length ≤ 1000000 := by rw [← hy, List.length_drop]; omega
    have hyk : y.length = s.length - (n + b) := by rw [← hy, List.length_drop]
    have hx1 := ext_end s n
    have hx2 := ext_end s (n + b)
    rw [hy] at hx2
    have j1 : (n : Int) + b ≤ s.length := by omega
    have j2 : ((n : Int) + b).toNat = n + b := by omega
    have HH := hide (fun W => hp_any y [40, 42] W)
    rw [pre_cm] at HH
    rw [SK1] at HE
    clear SK1 hb hy
    cases hcm : cmB y
    · rw [hcm] at HH
      have HV := hide (gapV_is (show skP s = (b + n, true) by rw [HE.out, skP_no HNb.out hcm]; simp))
      clear hcm
      go_wp2_with (first | (go_at_call 32; refine HR.out.mono ?_; rintro e w1 ⟨rfl, hg⟩; have G1 := hide (grown_trans HG.out hg); clear hg) | (go_at_call 33; refine (HH.out _).mono ?_; rintro e w' ⟨rfl, hw⟩; replace hw := hw.symm; subst hw))
      go_ret2
      refine ⟨?_, G1.out⟩
      rw [HV.out, show ((b + n : Nat) : Int) = (n : Int) + b by omega]
      rfl
    · rw [hcm] at HH
      have HCm := hide (fun W => pcomment_at y W hyl hcm)
      cases hct : cmt 0 y with
      | none =>
        rw [hct] at HCm
        have z0 : cmZ none = 0 := rfl
        have HV := hide (gapV_is (show skP s = (b + n, false) by rw [HE.out, skP_open HNb.out hcm hct]; simp))
        clear hcm hct
        go_wp2_with (first | (go_at_call 32; refine HR.out.mono ?_; rintro e w1 ⟨rfl, hg⟩; have G1 := hide (grown_trans HG.out hg); clear hg) | (go_at_call 33; refine (HH.out _).mono ?_; rintro e w' ⟨rfl, hw⟩; replace hw := hw.symm; subst hw) | (go_at_call 34; refine (HCm.out _).mono ?_; rintro e w' ⟨rfl, hw⟩; replace hw := hw.symm; subst hw))
        go_ret2
        refine ⟨?_, G1.out⟩
        rw [HV.out, show ((b + n : Nat) : Int) = (n : Int) + b by omega]
        rfl
      | some k =>
        rw [hct] at HCm
        have z0 : cmZ (some k) = (k : Int) := rfl
        have hk := cmt_le _ _ _ hct
        have hk0 : ((k : Int) == 0) = false := by simp; omega
        have HV := hide (skP_shut HNb.out hcm hct)
        have hk2 : n + b + k ≤ s.length := by omega
        have hk3 : (n : Int) + b + k ≤ s.length := by omega
        have hk4 := hk.1
        have HN := hide (show skP s = ((skP (s.drop (n + b + k))).1 + (n + b + k), (skP (s.drop (n + b + k))).2) by
          rw [HE.out, HV.out]
          have e : y.drop k = s.drop (n + b + k) := by rw [← HY.out, List.drop_drop]
          simp only []
          rw [e, show (skP (s.drop (n + b + k))).1 + k + b + n = (skP (s.drop (n + b + k))).1 + (n + b + k) by omega])
        clear hcm hct hk
        go_wp2_with (first | (go_at_call 32; refine HR.out.mono ?_; rintro e w1 ⟨rfl, hg⟩; have G1 := hide (grown_trans HG.out hg); clear hg) | (go_at_call 33; refine (HH.out _).mono ?_; rintro e w' ⟨rfl, hw⟩; replace hw := hw.symm; subst hw) | (go_at_call 34; refine (HCm.out _).mono ?_; rintro e w' ⟨rfl, hw⟩; replace hw := hw.symm; subst hw))
        go_roundw
        case rel => exact ⟨n + b + k, _, hk2, by go_num, rfl, G1, HN⟩
        case measure => simp [intOf]; omega
/- What stands behind a number. -/
def floB (r : List UInt8) : Bool := preB [46] r && !preB [46, 46] r
set_option maxHeartbeats 1000000 in
theorem floats_at (r : List UInt8) (w : World) : Calls Tryz.prog 49 #[.string (bs r)] w fun e w' => e = .returned (.bool (floB r)) ∧ w' = w := by
  have b1 : (⟨#[46]⟩ : ByteArray) = bs [46] := rfl
  have b2 : (⟨#[46, 46]⟩ : ByteArray) = bs [46, 46] := rfl
  have HA := hide (hp_any r [46] w)
  have HB := hide (hp_any r [46, 46] w)
  unfold floB
  cases h1 : preB [46] r
  · rw [h1] at HA
    clear h1
    go_enter Tryz.func49, Tryz.ntmps49
    go_wp2_with (go_at_call 33; refine HA.out.mono ?_; rintro e w' ⟨rfl, hw⟩; replace hw := hw.symm; subst hw)
    go_ret
    exact ⟨rfl, rfl⟩
  · rw [h1] at HA
    clear h1
    go_enter Tryz.func49, Tryz.ntmps49
    go_wp2_with (first | (go_at_call 33; have := H1; refine HB.out.mono ?_; rintro e w' ⟨rfl, hw⟩; replace hw := hw.symm; subst hw) | (go_at_call 33; refine HA.out.mono ?_; have H1 := hide trivial; rintro e w' ⟨rfl, hw⟩; replace hw := hw.symm; subst hw))
    go_ret
    exact ⟨by simp, rfl⟩
/- A result that lies in a cell of its own, with two more. -/
theorem res_tok {P : Program} {fn : Func} {p q u : Tmp} {ty : TypeId} (h : fn.results = #[.cell p ty, .tmp q, .tmp u]) {tmps : Array Value} {w : World} {a : Addr} {v x y : Value} (h1 : tmps.getD p undef = .pointer (some a)) (h2 : (loadVar ty a).run P w = .ok v w) (h3 : tmps.getD q undef = x) (h4 : tmps.getD u undef = y) :
    (results fn tmps).run P w = .ok (.tuple #[v, x, y]) w := by
  have h1' : tmps[p]?.getD undef = .pointer (some a) := by simpa using h1
  have h3' : tmps[q]?.getD undef = x := by simpa using h3
  have h4' : tmps[u]?.getD undef = y := by simpa using h4
  simp only [results, h]
  simp [Sem.run_bind, Result.andThen, h1', h3', h4', asAddr, h2]
def tokV (k n a : Int) (t : List UInt8) (l e : Int) : Value := .tuple #[.agg #[.int .i64 k, .string (bs t), .int .i64 n, .int .i64 a], .int .i64 l, .int .i64 e]
set_option maxHeartbeats 1000000 in
theorem fail_at (e0 : Int) (w : World) : Calls Tryz.prog 38 #[.int .i64 e0] w fun e w' => e = .returned (tokV 0 0 0 [] 0 e0) ∧ w.grownBy w' none := by
  have b0 : (⟨#[]⟩ : ByteArray) = bs [] := rfl
  go_enter Tryz.func38, Tryz.ntmps38
  go_wp2
  refine bodyPost_ret (v := tokV 0 0 0 [] 0 e0) (by simp [tokV, results, Tryz.results38, go_sem]) rfl ⟨rfl, alloc_g _ _⟩
theorem zr_new (w : World) : (w.alloc (.cells #[.int .i64 0, .string (bs []), .int .i64 0, .int .i64 0] 32)).heap[w.heap.size]? = some (.cells #[.int .i64 0, .string (bs []), .int .i64 0, .int .i64 0] 32 (0, 0)) := heap_alloc_new _ _
set_option maxHeartbeats 2000000 in
theorem counted_ok (k n l : Int) (w : World) : Calls Tryz.prog 48 #[.int .i64 k, .int .i64 n, .int .i64 l, .nilIface] w fun e w' => e = .returned (tokV k n 0 [] l 0) ∧ w.grownBy w' none := by
  have b0 : (⟨#[]⟩ : ByteArray) = bs [] := rfl
  go_enter Tryz.func48, Tryz.ntmps48
  go_wp2
  refine bodyPost_ret (v := tokV k n 0 [] l 0) (by simp [tokV, results, Tryz.results48, go_sem]) rfl ⟨rfl, alloc_g _ _⟩
set_option maxHeartbeats 2000000 in
theorem counted_no (k n l : Int) (te : TypeId) (pe : Value) (w : World) : Calls Tryz.prog 48 #[.int .i64 k, .int .i64 n, .int .i64 l, .iface te pe] w fun e w' => e = .returned (tokV 0 0 0 [] 0 91) ∧ w.grownBy w' none := by
  have b0 : (⟨#[]⟩ : ByteArray) = bs [] := rfl
  have HZ := hide (zr_new w)
  have HV := hide (alloc_g w (.cells #[.int .i64 0, .string (bs []), .int .i64 0, .int .i64 0] 32))
  go_enter Tryz.func48, Tryz.ntmps48
  go_wp2_with (go_at_call 38; refine (fail_at _ _).mono ?_; unfold tokV; rintro e wk ⟨rfl, hg⟩; have ZR := hide (keep_n HZ.out hg); have HG := hide (grown_trans HV.out hg); clear hg; obtain ⟨r0, r1, r2, r3⟩ := four_at ZR.out; have hfR := fun k => free_at (k := k) ZR.out)
  refine bodyPost_ret (v := tokV 0 0 0 [] 0 91) (by simp [tokV, results, Tryz.results48, go_sem, r0, r1, r2, r3]) rfl ⟨rfl, grown_own HG.out (Nat.le_refl _) (four_g _ _ _ _ _ _)⟩
theorem tokR_ok {p : Nat} {k n : Int} {t : List UInt8} {l : Int} {len : Nat} (hl : l = (p : Int) + (len : Nat)) {a : Int} : TkR p (.ok (⟨k, t, n, a⟩, len)) (tokV k n a t l 0) := tk_ok hl
theorem tokR_no {p : Nat} {e : Int} {k n a : Int} {t : List UInt8} : TkR p (.error e) (tokV k n a t 0 e) := tk_no
end Go.Proofs.YthnkkcamfcmhmaaGreatDoor.Lx
