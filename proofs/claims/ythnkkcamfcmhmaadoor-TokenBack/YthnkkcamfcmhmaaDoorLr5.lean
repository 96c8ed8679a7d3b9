/-
  The document's own tokens (package spinetref09): one, the rest; Lex.
-/
import Derived.Test.YthnkkcamfcmhmaaDoorLr4
namespace Go.Proofs.YthnkkcamfcmhmaaDoor.Lx
open Go.RowKit Go.Proofs.YthnkkcamfcmhmaaDoor.Tx
set_option linter.unusedVariables false
set_option linter.unusedSimpArgs false
set_option maxRecDepth 100000

theorem tk_shape {p : Nat} {o : Except Int (Tk × Nat)} {v : Value} (h : TkR p o v) : ∃ k x n a y e, v = .tuple #[.agg #[.int .i64 k, .string (bs x), .int .i64 n, .int .i64 a], .int .i64 y, .int .i64 e] := by
  match o, h with
  | .ok (t, len), h => exact ⟨_, _, _, _, _, _, h⟩
  | .error e, ⟨k, x, n, a, h⟩ => exact ⟨_, _, _, _, _, _, h⟩
set_option maxHeartbeats 2000000 in
theorem one_dig (s : List UInt8) (p : Nat) (w : World) (hs : s.length ≤ 1000000) (hp : p < s.length) (hl : letN s[p] = false) (hd : digN s[p] = true) :
    Calls Tryd.prog 19 #[.string (bs s), .int .i64 p] w fun e w' => ∃ v, e = .returned v ∧ TkR p (oneT (s.drop p) p) v ∧ w.grownBy w' none := by
  have hsz := bs_size s
  have b0' : (⟨#[]⟩ : ByteArray) = bs [] := rfl
  have i0 : (p : Int) < s.length := by omega
  obtain ⟨c, hc⟩ : ∃ c, s[p] = c := ⟨_, rfl⟩
  have hb0 : ∀ h, (bs s)[p]'h = c := fun h => hc
  rw [hc] at hl hd
  have hdr : s.drop p = c :: s.drop (p + 1) := by rw [List.drop_eq_getElem_cons hp, hc]
  have hon := oneT_dig (c := c) (r := s.drop (p + 1)) (a := p) hl hd
  rw [← hdr] at hon
  have HOn := hide hon
  have HLt := hide (show ltI (c.toNat : Int) = false from hl)
  have HDg := hide (show digI (c.toNat : Int) = true from hd)
  have HNu := hide (fun W => number_at s p W hs (Nat.le_of_lt hp))
  have HR := hide (show (w.alloc (.cells #[.int .i64 0, .string (bs []), .int .i64 0, .int .i64 0] 37)).heap[w.heap.size]? = some (.cells #[.int .i64 0, .string (bs []), .int .i64 0, .int .i64 0] 37 (0, 0)) from heap_alloc_new _ _)
  clear hc hl hd hdr hon
  go_enter Tryd.func19, Tryd.ntmps19
  go_wp2_with (first | (go_at_call 36; refine (letter_any _ _).mono ?_; rw [HLt.out]; rintro e w' ⟨rfl, hw⟩; replace hw := hw.symm; subst hw) | (go_at_call 37; refine (digit_any _ _).mono ?_; rw [HDg.out]; rintro e w' ⟨rfl, hw⟩; replace hw := hw.symm; subst hw) | (go_at_call 39; refine (HNu.out _).mono ?_; rintro e wk ⟨v, rfl, hv, hg⟩; obtain ⟨tk, tx, tn, ta, ty, te, rfl⟩ := tk_shape hv; have HTv := hide hv; have ZR := hide (keep_n HR.out hg); have HG := hide (grown_trans (alloc_g _ _) hg); clear hg hv; obtain ⟨r0, r1, r2, r3⟩ := four_at ZR.out; have hfR := fun k => free_at (k := k) ZR.out))
  refine bodyPost_ret (v := .tuple #[.agg #[.int .i64 tk, .string (bs tx), .int .i64 tn, .int .i64 ta], .int .i64 ty, .int .i64 te]) (by simp [results, Tryd.results19, go_sem, r0, r1, r2, r3]) rfl ⟨_, rfl, ?_, grown_own HG.out (Nat.le_refl _) (four_g _ _ _ _ _ _)⟩
  rw [HOn.out]
  exact HTv.out
/- Its world: one block more. -/
set_option maxHeartbeats 4000000 in
theorem one_quo (s : List UInt8) (p : Nat) (w : World) (hs : s.length ≤ 1000000) (hp : p < s.length) (hq : s[p] = 34) :
    Calls Tryd.prog 19 #[.string (bs s), .int .i64 p] w fun e w' => ∃ v, e = .returned v ∧ TkR p (oneT (s.drop p) p) v ∧ w.grownBy w' none := by
  have hsz := bs_size s
  have b0' : (⟨#[]⟩ : ByteArray) = bs [] := rfl
  have i0 : (p : Int) < s.length := by omega
  have hb0 : ∀ h, (bs s)[p]'h = 34 := fun h => hq
  have h34 : ((34 : UInt8).toNat : Int) = 34 := rfl
  have hdr : s.drop p = 34 :: s.drop (p + 1) := by rw [List.drop_eq_getElem_cons hp, hq]
  have hon := oneT_quo (r := s.drop (p + 1)) (a := p)
  rw [← hdr] at hon
  have HOn := hide hon
  have HLt := hide (show ltI 34 = false by decide)
  have HDg := hide (show digI 34 = false by decide)
  clear hq hdr hon
  go_enter Tryd.func19, Tryd.ntmps19
  go_wp2_with (first | (go_at_call 36; refine (letter_any _ _).mono ?_; rw [HLt.out]; rintro e w' ⟨rfl, hw⟩; replace hw := hw.symm; subst hw) | (go_at_call 37; refine (digit_any _ _).mono ?_; rw [HDg.out]; rintro e w' ⟨rfl, hw⟩; replace hw := hw.symm; subst hw))
  go_loop [10] (fun qv => ∃ q : Nat, p + 1 ≤ q ∧ q ≤ s.length ∧ qv = .int .i64 q ∧ Hid (((s.drop (p + 1)).take (q - (p + 1))).all strN = true)) (fun qv => s.length - (intOf qv).toNat)
  case atStart => exact ⟨p + 1, Nat.le_refl _, by omega, by go_num, hide (by simp)⟩
  case round =>
    obtain ⟨q, hpq, hqs, rfl, HH⟩ := hrel
    clear hb0
    by_cases hlt : q < s.length
    · have j1 : (q : Int) < s.length := by omega
      have j0 : ((q : Int) == s.length) = false := by simp; omega
      obtain ⟨c2, hc2⟩ : ∃ c, s[q] = c := ⟨_, rfl⟩
      have hb : ∀ h, (bs s)[q]'h = c2 := fun h => hc2
      have HTk := hide (take_on hpq hlt)
      rw [hc2] at HTk
      have HSq := hide (show s[q]? = some c2 by rw [List.getElem?_eq_getElem hlt, hc2])
      obtain ⟨C, hC⟩ : ∃ C : Int, (c2.toNat : Int) = C := ⟨_, rfl⟩
      have HCc := hide hC
      clear hc2
      by_cases h32 : 32 ≤ C
      · by_cases h34 : C = 34
        · have hc34 : c2 = 34 := UInt8.toNat_inj.1 (by show c2.toNat = 34; omega)
          have HNx := hide (show ∀ d, s[q]? = some d → strN d = false by intro d hd; rw [HSq.out] at hd; rw [← Option.some.inj hd, hc34]; decide)
          obtain ⟨tx, htx⟩ : ∃ tx, (s.drop (p + 1)).take (q - (p + 1)) = tx := ⟨_, rfl⟩
          have htw := (ld_tw strN hpq hqs HH.out HNx.out).1
          have hln := (ld_tw strN hpq hqs HH.out HNx.out).2
          rw [htx] at htw hln
          have hx : (bs s).extract (p + 1) q = bs tx := by rw [bs_ext, htx]
          have HO := hide (show oneT (s.drop p) p = if 64 < tx.length then .error 2 else .ok (⟨5, tx, 0, p⟩, tx.length + 2) by
            rw [HOn.out, htw, hln, if_neg]
            rw [List.drop_drop, show p + 1 + (q - (p + 1)) = q by omega, List.head?_drop, HSq.out, hc34]
            simp)
          have HLn := hide hln
          have i1 : (p : Int) + 1 ≤ q := by omega
          have i2 : (q : Int) ≤ s.length := by omega
          have i3 : ((p : Int) + 1).toNat = p + 1 := by omega
          have i4 : (0 : Int) ≤ (p : Int) + 1 := by omega
          have n34 : (C != 34) = false := by rw [h34]; rfl
          clear htx htw hln hc34
          by_cases h64 : (64 : Int) < (q : Int) - p - 1
          · go_wp2
            refine bodyPost_ret (v := .tuple #[.agg #[.int .i64 0, .string (bs []), .int .i64 0, .int .i64 0], .int .i64 0, .int .i64 2]) (by simp [results, Tryd.results19, go_sem]) rfl ⟨_, rfl, ?_, alloc_g _ _⟩
            rw [HO.out, if_pos (by have := HLn.out; omega)]
            exact tk_no
          · go_wp2
            refine bodyPost_ret (v := .tuple #[.agg #[.int .i64 5, .string (bs tx), .int .i64 0, .int .i64 p], .int .i64 (q + 1), .int .i64 0]) (by simp [results, Tryd.results19, go_sem]) rfl ⟨_, rfl, ?_, alloc_g _ _⟩
            rw [HO.out, if_neg (by have := HLn.out; omega)]
            exact tk_ok (by have := HLn.out; omega)
        · have n34 : (C != 34) = true := by simpa using h34
          have HSt := hide (show strN c2 = true by simp [strN]; constructor; omega; intro e; apply h34; rw [← hC, e]; rfl)
          go_wp2
          refine ⟨⟨q + 1, by omega, by omega, by go_num, hide ?_⟩, by simp [intOf]; omega⟩
          rw [HTk.out]; simp [HH.out, HSt.out]
      · have n34 : (C != 34) = true := by simp; omega
        have HNx := hide (show ∀ d, s[q]? = some d → strN d = false by intro d hd; rw [HSq.out] at hd; rw [← Option.some.inj hd]; simp [strN]; omega)
        have htw := (ld_tw strN hpq hqs HH.out HNx.out).1
        have hln := (ld_tw strN hpq hqs HH.out HNx.out).2
        have HO := hide (show oneT (s.drop p) p = .error 90 by
          rw [HOn.out, htw, hln, if_pos]
          rw [List.drop_drop, show p + 1 + (q - (p + 1)) = q by omega, List.head?_drop, HSq.out]
          intro e
          have := Option.some.inj e
          rw [this] at hC
          have : C = 34 := hC.symm
          omega)
        clear htw hln
        go_wp2
        refine bodyPost_ret (v := .tuple #[.agg #[.int .i64 0, .string (bs []), .int .i64 0, .int .i64 0], .int .i64 0, .int .i64 90]) (by simp [results, Tryd.results19, go_sem]) rfl ⟨_, rfl, ?_, alloc_g _ _⟩
        rw [HO.out]
        exact tk_no
    · have j1 : ¬ (q : Int) < s.length := by omega
      have j0 : ((q : Int) == s.length) = true := by simp; omega
      have HNx := hide (show ∀ d, s[q]? = some d → strN d = false by intro d hd; rw [List.getElem?_eq_none (by omega)] at hd; cases hd)
      have htw := (ld_tw strN hpq hqs HH.out HNx.out).1
      have hln := (ld_tw strN hpq hqs HH.out HNx.out).2
      have HO := hide (show oneT (s.drop p) p = .error 90 by
        rw [HOn.out, htw, hln, if_pos]
        rw [List.drop_drop, show p + 1 + (q - (p + 1)) = q by omega, List.head?_drop, List.getElem?_eq_none (by omega)]
        simp)
      clear htw hln
      go_wp2
      refine bodyPost_ret (v := .tuple #[.agg #[.int .i64 0, .string (bs []), .int .i64 0, .int .i64 0], .int .i64 0, .int .i64 90]) (by simp [results, Tryd.results19, go_sem]) rfl ⟨_, rfl, ?_, alloc_g _ _⟩
      rw [HO.out]
      exact tk_no
end Go.Proofs.YthnkkcamfcmhmaaDoor.Lx
