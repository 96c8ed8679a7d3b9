/-
  The document's own tokens (package spinetref09): one, signs; one as a whole.
-/
import Derived.Test.YthnkkcamfcmhmaaDoorLr5
namespace Go.Proofs.YthnkkcamfcmhmaaDoor.Lx
open Go.RowKit Go.Proofs.YthnkkcamfcmhmaaDoor.Tx
set_option linter.unusedVariables false
set_option linter.unusedSimpArgs false
set_option maxRecDepth 100000

set_option maxHeartbeats 4000000 in
theorem one_sign (s : List UInt8) (p : Nat) (w : World) (hs : s.length ≤ 1000000) (hp : p < s.length) (hl : letN s[p] = false) (hd : digN s[p] = false) (hq : s[p] ≠ 34) :
    Calls Tryd.prog 19 #[.string (bs s), .int .i64 p] w fun e w' => ∃ v, e = .returned v ∧ TkR p (oneT (s.drop p) p) v ∧ w.grownBy w' none := by
  have hsz := bs_size s
  have b0' : (⟨#[]⟩ : ByteArray) = bs [] := rfl
  have i0 : (p : Int) < s.length := by omega
  obtain ⟨c, hc⟩ : ∃ c, s[p] = c := ⟨_, rfl⟩
  have hb0 : ∀ h, (bs s)[p]'h = c := fun h => hc
  rw [hc] at hl hd hq
  have hdr : s.drop p = c :: s.drop (p + 1) := by rw [List.drop_eq_getElem_cons hp, hc]
  have hon := oneT_sign (c := c) (r := s.drop (p + 1)) (a := p) hl hd hq
  rw [← hdr, List.length_drop] at hon
  have HOn := hide hon
  have HOne := hide (show (s.drop p).take 1 = [c] by rw [hdr]; rfl)
  obtain ⟨C, hC⟩ : ∃ C : Int, (c.toNat : Int) = C := ⟨_, rfl⟩
  have HLt := hide (show ltI C = false by rw [← hC]; exact hl)
  have HDg := hide (show digI C = false by rw [← hC]; exact hd)
  have n34 : (C == 34) = false := by
    have h2 : c.toNat ≠ 34 := fun e => hq (UInt8.toNat_inj.1 e)
    rw [← hC]; simp; omega
  have HR0 := hide (show Zr (w.alloc (.cells #[.int .i64 0, .string (bs []), .int .i64 0, .int .i64 0] 37)) w.heap.size from heap_alloc_new _ _)
  have HG0 := hide (alloc_g w (.cells #[.int .i64 0, .string (bs []), .int .i64 0, .int .i64 0] 37))
  clear hc hl hd hdr hon hq
  go_enter Tryd.func19, Tryd.ntmps19
  go_wp2_with (first | (go_at_call 36; refine (letter_any _ _).mono ?_; rw [HLt.out]; rintro e w' ⟨rfl, hw⟩; replace hw := hw.symm; subst hw) | (go_at_call 37; refine (digit_any _ _).mono ?_; rw [HDg.out]; rintro e w' ⟨rfl, hw⟩; replace hw := hw.symm; subst hw))
  go_loopw [11] (fun nv wr => Hid (Zr wr w.heap.size) ∧ Hid (w.grownBy wr none) ∧ ((nv = .int .i64 2) ∨ (nv = .int .i64 1 ∧ Hid (¬ (1 ≤ s.length - (p + 1) ∧ signB ((s.drop p).take 2) = true))) ∨ (nv = .int .i64 0 ∧ Hid (oneT (s.drop p) p = .error 90)))) (fun nv _ => (intOf nv).toNat)
  case atStart => exact ⟨HR0, HG0, .inl rfl⟩
  case round =>
    clear HR0 HG0 hb0
    obtain ⟨ZR, GR, h⟩ := hrel
    rcases h with rfl | ⟨rfl, HNo⟩ | ⟨rfl, HEr⟩
    · by_cases h2 : p + 2 ≤ s.length
      · have i1 : (p : Int) + 2 ≤ s.length := by omega
        have i2 : (p : Int) ≤ (p : Int) + 2 := by omega
        have i3 : ((p : Int) + 2).toNat = p + 2 := by omega
        obtain ⟨tx, htx⟩ : ∃ tx, (s.drop p).take 2 = tx := ⟨_, rfl⟩
        have hx : (bs s).extract p (p + 2) = bs tx := by rw [bs_ext, show p + 2 - p = 2 by omega, htx]
        have HTx := hide htx
        clear htx
        cases hsg : signB tx
        · have HSg := hide hsg
          clear hsg
          go_wp2_with (go_at_call 40; refine (sign_any tx _).mono ?_; rw [HSg.out]; rintro e wk ⟨rfl, hg⟩; have ZK := hide (show Zr wk w.heap.size from keep_n ZR.out hg); have GK := hide (grown_trans GR.out hg); clear hg; obtain ⟨r0, r1, r2, r3⟩ := four_at ZK.out; have hfR := fun k => free_at (k := k) ZK.out)
          go_roundw
          case rel => exact ⟨ZK, GK, .inr (.inl ⟨by go_num, hide (by rw [HTx.out, HSg.out]; simp)⟩)⟩
          case measure => simp [intOf]
        · have HSg := hide hsg
          clear hsg
          go_wp2_with (go_at_call 40; refine (sign_any tx _).mono ?_; rw [HSg.out]; rintro e wk ⟨rfl, hg⟩; have ZK := hide (show Zr wk w.heap.size from keep_n ZR.out hg); have GK := hide (grown_trans GR.out hg); clear hg; obtain ⟨r0, r1, r2, r3⟩ := four_at ZK.out; have hfR := fun k => free_at (k := k) ZK.out)
          refine bodyPost_ret (v := .tuple #[.agg #[.int .i64 6, .string (bs tx), .int .i64 0, .int .i64 p], .int .i64 (p + 2), .int .i64 0]) (by simp [results, Tryd.results19, go_sem, r0, r1, r2, r3]) rfl ⟨_, rfl, ?_, grown_own GK.out (Nat.le_refl _) (four_g _ _ _ _ _ _)⟩
          rw [HOn.out, HTx.out, if_pos ⟨by omega, HSg.out⟩]
          exact tk_ok (by omega)
      · have i1 : ¬ (p : Int) + 2 ≤ s.length := by omega
        go_wp2
        go_roundw
        case rel => exact ⟨ZR, GR, .inr (.inl ⟨by go_num, hide (fun h => by have := h.1; omega)⟩)⟩
        case measure => simp [intOf]
    · have i1 : (p : Int) + 1 ≤ s.length := by omega
      have i2 : (p : Int) ≤ (p : Int) + 1 := by omega
      have i3 : ((p : Int) + 1).toNat = p + 1 := by omega
      obtain ⟨tx, htx⟩ : ∃ tx, [c] = tx := ⟨_, rfl⟩
      have hx : (bs s).extract p (p + 1) = bs tx := by rw [bs_ext, show p + 1 - p = 1 by omega, HOne.out, htx]
      have HTx := hide htx
      clear htx
      cases hsg : signB tx
      · have HSg := hide hsg
        clear hsg
        go_wp2_with (go_at_call 40; refine (sign_any tx _).mono ?_; rw [HSg.out]; rintro e wk ⟨rfl, hg⟩; have ZK := hide (show Zr wk w.heap.size from keep_n ZR.out hg); have GK := hide (grown_trans GR.out hg); clear hg; obtain ⟨r0, r1, r2, r3⟩ := four_at ZK.out; have hfR := fun k => free_at (k := k) ZK.out)
        go_roundw
        case rel => exact ⟨ZK, GK, .inr (.inr ⟨by go_num, hide (by rw [HOn.out, if_neg HNo.out, HTx.out, HSg.out, if_neg (by simp)])⟩)⟩
        case measure => simp [intOf]
      · have HSg := hide hsg
        clear hsg
        go_wp2_with (go_at_call 40; refine (sign_any tx _).mono ?_; rw [HSg.out]; rintro e wk ⟨rfl, hg⟩; have ZK := hide (show Zr wk w.heap.size from keep_n ZR.out hg); have GK := hide (grown_trans GR.out hg); clear hg; obtain ⟨r0, r1, r2, r3⟩ := four_at ZK.out; have hfR := fun k => free_at (k := k) ZK.out)
        refine bodyPost_ret (v := .tuple #[.agg #[.int .i64 6, .string (bs tx), .int .i64 0, .int .i64 p], .int .i64 (p + 1), .int .i64 0]) (by simp [results, Tryd.results19, go_sem, r0, r1, r2, r3]) rfl ⟨_, rfl, ?_, grown_own GK.out (Nat.le_refl _) (four_g _ _ _ _ _ _)⟩
        rw [HOn.out, if_neg HNo.out, HTx.out, if_pos HSg.out]
        exact tk_ok (by omega)
    · obtain ⟨r0, r1, r2, r3⟩ := four_at ZR.out
      have hfR := fun k => free_at (k := k) ZR.out
      go_wp2
      refine bodyPost_ret (v := .tuple #[.agg #[.int .i64 0, .string (bs []), .int .i64 0, .int .i64 0], .int .i64 0, .int .i64 90]) (by simp [results, Tryd.results19, go_sem, r0, r1, r2, r3]) rfl ⟨_, rfl, ?_, grown_own GR.out (Nat.le_refl _) (four_g _ _ _ _ _ _)⟩
      rw [HEr.out]
      exact tk_no
theorem one_at (s : List UInt8) (p : Nat) (w : World) (hs : s.length ≤ 1000000) (hp : p < s.length) :
    Calls Tryd.prog 19 #[.string (bs s), .int .i64 p] w fun e w' => ∃ v, e = .returned v ∧ TkR p (oneT (s.drop p) p) v ∧ w.grownBy w' none := by
  cases hl : letN s[p]
  · cases hd : digN s[p]
    · by_cases hq : s[p] = 34
      · exact one_quo s p w hs hp hq
      · exact one_sign s p w hs hp hl hd hq
    · exact one_dig s p w hs hp hl hd
  · exact one_let s p w hs hp hl
end Go.Proofs.YthnkkcamfcmhmaaDoor.Lx
