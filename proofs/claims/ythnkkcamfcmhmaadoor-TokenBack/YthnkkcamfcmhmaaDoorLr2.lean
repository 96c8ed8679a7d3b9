/-
  The document's own tokens (package spinetref09): comment, skip.
-/
import Derived.Test.YthnkkcamfcmhmaaDoorLr1
namespace Go.Proofs.YthnkkcamfcmhmaaDoor.Lx
open Go.RowKit Go.Proofs.YthnkkcamfcmhmaaDoor.Tx
set_option linter.unusedVariables false
set_option linter.unusedSimpArgs false
set_option maxRecDepth 100000

def cmR (at0 : Nat) (o : Option Nat) : Int := match o with | some k => (at0 : Int) + k | none => -1
/- The next two bytes. -/
theorem two_at {s : List UInt8} {p : Nat} (h : p + 1 < s.length) : ∃ a b r, s.drop p = a :: b :: r ∧ s.drop (p + 1) = b :: r ∧ s.drop (p + 2) = r := by
  refine ⟨s[p], s[p + 1], s.drop (p + 2), ?_, List.drop_eq_getElem_cons h, rfl⟩
  rw [List.drop_eq_getElem_cons (by omega), List.drop_eq_getElem_cons h]
theorem map_map2 (o : Option Nat) (a b : Nat) : (o.map (· + a)).map (· + b) = o.map (· + (a + b)) := by cases o <;> simp [Nat.add_assoc]
set_option maxHeartbeats 2000000 in
theorem comment_at (s : List UInt8) (p : Nat) (w : World) (hs : s.length ≤ 1000000) (hc : cmB (s.drop p) = true) :
    Calls Tryd.prog 35 #[.string (bs s), .int .i64 p] w fun e w' => e = .returned (.int .i64 (cmR p (cmt 0 (s.drop p)))) ∧ w' = w := by
  have hsz := bs_size s
  have b1 : (⟨#[40, 42]⟩ : ByteArray) = bs [40, 42] := rfl
  have b2 : (⟨#[42, 41]⟩ : ByteArray) = bs [42, 41] := rfl
  have HC := hide hc
  have hps : p ≤ s.length := by
    have h : (s.drop p).length ≠ 0 := by intro h0; rw [List.length_eq_zero_iff.1 h0] at hc; cases hc
    simp at h
    omega
  clear hc
  go_enter Tryd.func35, Tryd.ntmps35
  go_wp2
  go_loop [1, 5] (fun av dv => ∃ (q d : Nat), p ≤ q ∧ q ≤ s.length ∧ av = .int .i64 q ∧ dv = .int .i64 d ∧ d ≤ q ∧ Hid ((q = p ∧ d = 0) ∨ 1 ≤ d) ∧ Hid (cmt 0 (s.drop p) = (cmt d (s.drop q)).map (· + (q - p)))) (fun av _ => s.length - (intOf av).toNat)
  case atStart => exact ⟨p, 0, Nat.le_refl _, hps, rfl, rfl, Nat.zero_le _, hide (.inl ⟨rfl, rfl⟩), hide (by simp)⟩
  case round =>
    obtain ⟨q, d, hpq, hq, rfl, rfl, hdq, HD, HE⟩ := hrel
    by_cases hlt : q + 1 < s.length
    · obtain ⟨a, b, r, e0, e1, e2⟩ := two_at hlt
      have hx : (bs s).extract q (q + 2) = bs [a, b] := by rw [bs_ext, show q + 2 - q = 2 by omega, e0]; rfl
      have j1 : (q : Int) + 1 < s.length := by omega
      have j2 : (q : Int) + 2 ≤ s.length := by omega
      have j3 : (q : Int) ≤ (q : Int) + 2 := by omega
      have j4 : ((q : Int) + 2).toNat = q + 2 := by omega
      have q1 := bs_eqB [a, b] [40, 42]
      have q2 := bs_eqB [a, b] [42, 41]
      have HE0 := hide e0
      have HE1 := hide e1
      have HE2 := hide e2
      clear e0 e1 e2
      by_cases h1 : a = 40 ∧ b = 42
      · rw [h1.1, h1.2] at q1 q2 hx HE0
        have t1 : (([40, 42] : List UInt8) == [40, 42]) = true := rfl
        rw [t1] at q1
        clear h1 t1
        go_wp2
        refine ⟨⟨q + 2, d + 1, by omega, by omega, by go_num, by go_num, by omega, hide (.inr (by omega)), hide ?_⟩, by simp [intOf]; omega⟩
        rw [HE.out, cmt_in HE0.out, HE2.out, map_map2, show 2 + (q - p) = q + 2 - p by omega]
      · have t1 : (([a, b] : List UInt8) == [40, 42]) = false := by simp; exact fun e f => h1 ⟨e, f⟩
        rw [t1] at q1
        have hd1 : 1 ≤ d := by
          rcases HD.out with ⟨e1, e2⟩ | h
          · exfalso
            have := HC.out
            rw [← e1, HE0.out] at this
            simp [cmB] at this
            exact h1 this
          · exact h
        by_cases h2 : a = 42 ∧ b = 41
        · rw [h2.1, h2.2] at q1 q2 hx HE0
          have t2 : (([42, 41] : List UInt8) == [42, 41]) = true := rfl
          rw [t2] at q2
          clear h1 h2 t1 t2
          by_cases hd : d = 1
          · subst hd
            go_wp2
            go_ret
            refine ⟨?_, rfl⟩
            rw [HE.out, cmt_end HE0.out]
            show Ending.returned (Value.int .i64 ((q : Int) + 2)) = .returned (.int .i64 ((p : Int) + ((2 + (q - p) : Nat) : Int)))
            rw [show ((2 + (q - p) : Nat) : Int) = (q : Int) + 2 - p by omega, show (p : Int) + ((q : Int) + 2 - p) = (q : Int) + 2 by omega]
          · have hd2 : ((d : Int) - 1 == 0) = false := by simp; omega
            have hd3 : ((d : Int) == 1) = false := by simp; omega
            go_wp2
            refine ⟨⟨q + 2, d - 1, by omega, by omega, by go_num, by go_num, by omega, hide (.inr (by omega)), hide ?_⟩, by simp [intOf]; omega⟩
            rw [HE.out, cmt_out hd HE0.out, HE2.out, map_map2, show 2 + (q - p) = q + 2 - p by omega]
        · have t2 : (([a, b] : List UInt8) == [42, 41]) = false := by simp; exact fun e f => h2 ⟨e, f⟩
          rw [t2] at q2
          have HO := hide (cmt_on (d := d) (r := r) h1 h2)
          clear h1 h2 t1 t2
          go_wp2
          refine ⟨⟨q + 1, d, by omega, by omega, by go_num, rfl, by omega, hide (.inr hd1), hide ?_⟩, by simp [intOf]; omega⟩
          rw [HE.out, HE0.out, HO.out, HE1.out, map_map2, show 1 + (q - p) = q + 1 - p by omega]
    · have j1 : ¬ (q : Int) + 1 < s.length := by omega
      go_wp2
      go_ret
      refine ⟨?_, rfl⟩
      rw [HE.out, cmt_short (by rw [List.length_drop]; omega)]
      rfl
/- What skip tells from place p on. -/
def skT (s : List UInt8) (p : Nat) : Value := .tuple #[.int .i64 ((p : Int) + ((skP (s.drop p)).1 : Nat)), .bool (skP (s.drop p)).2]
theorem skT_on {s : List UInt8} {p q : Nat} {a : Nat × Bool} (h : skP (s.drop p) = ((skP (s.drop q)).1 + (q - p), (skP (s.drop q)).2)) (hpq : p ≤ q) : skT s p = .tuple #[.int .i64 ((q : Int) + ((skP (s.drop q)).1 : Nat)), .bool (skP (s.drop q)).2] := by
  unfold skT
  rw [h]
  simp only []
  rw [show (p : Int) + (((skP (s.drop q)).1 + (q - p) : Nat) : Int) = (q : Int) + ((skP (s.drop q)).1 : Nat) by omega]
set_option maxHeartbeats 4000000 in
theorem skip_at (s : List UInt8) (p : Nat) (w : World) (hs : s.length ≤ 1000000) (hp : p ≤ s.length) :
    Calls Tryd.prog 18 #[.string (bs s), .int .i64 p] w fun e w' => e = .returned (skT s p) ∧ w' = w := by
  have hsz := bs_size s
  have b1 : (⟨#[40, 42]⟩ : ByteArray) = bs [40, 42] := rfl
  go_enter Tryd.func18, Tryd.ntmps18
  go_wp2
  go_loop [1] (fun av => ∃ q : Nat, p ≤ q ∧ q ≤ s.length ∧ av = .int .i64 q ∧ Hid (skP (s.drop p) = ((skP (s.drop q)).1 + (q - p), (skP (s.drop q)).2))) (fun av => s.length - (intOf av).toNat)
  case atStart => exact ⟨p, Nat.le_refl _, hp, rfl, hide (by simp)⟩
  case round =>
    obtain ⟨q, hpq, hq, rfl, HE⟩ := hrel
    by_cases hlt : q < s.length
    · have j1 : (q : Int) < s.length := by omega
      obtain ⟨c, hc⟩ : ∃ c, s[q] = c := ⟨_, rfl⟩
      have hb : ∀ h, (bs s)[q]'h = c := fun h => hc
      have HE0 := hide (List.drop_eq_getElem_cons hlt)
      rw [hc] at HE0
      obtain ⟨r, hr⟩ : ∃ r, s.drop (q + 1) = r := ⟨_, rfl⟩
      have HE1 := hide hr
      rw [hr] at HE0
      obtain ⟨V, hV⟩ : ∃ V : Int, (c.toNat : Int) = V := ⟨_, rfl⟩
      clear hr
      cases hbl : blkN c
      · have HB := hide hbl
        have n9 : (V == 9) = false := by
          have : c ≠ 9 := by rintro rfl; simp [blkN] at hbl
          have h2 : c.toNat ≠ 9 := fun e => this (UInt8.toNat_inj.1 e)
          rw [← hV]; simp; omega
        have n10 : (V == 10) = false := by
          have : c ≠ 10 := by rintro rfl; simp [blkN] at hbl
          have h2 : c.toNat ≠ 10 := fun e => this (UInt8.toNat_inj.1 e)
          rw [← hV]; simp; omega
        have n13 : (V == 13) = false := by
          have : c ≠ 13 := by rintro rfl; simp [blkN] at hbl
          have h2 : c.toNat ≠ 13 := fun e => this (UInt8.toNat_inj.1 e)
          rw [← hV]; simp; omega
        have n32 : (V == 32) = false := by
          have : c ≠ 32 := by rintro rfl; simp [blkN] at hbl
          have h2 : c.toNat ≠ 32 := fun e => this (UInt8.toNat_inj.1 e)
          rw [← hV]; simp; omega
        clear hbl
        by_cases hl2 : q + 1 < s.length
        · have i1 : (q : Int) + 1 < s.length := by omega
          have i2 : (q : Int) + 2 ≤ s.length := by omega
          have i3 : (q : Int) ≤ (q : Int) + 2 := by omega
          have i4 : ((q : Int) + 2).toNat = q + 2 := by omega
          obtain ⟨a, b, r', e0, e1, e2⟩ := two_at hl2
          have hx : (bs s).extract q (q + 2) = bs [a, b] := by rw [bs_ext, show q + 2 - q = 2 by omega, e0]; rfl
          have q1 := bs_eqB [a, b] [40, 42]
          have hcmB : cmB (s.drop q) = (([a, b] : List UInt8) == [40, 42]) := by rw [e0]; simp [cmB]
          cases hcm : (([a, b] : List UInt8) == [40, 42])
          · rw [hcm] at q1 hcmB
            have HSt := hide (show skP (s.drop q) = (0, true) by rw [HE0.out] at hcmB ⊢; exact skP_stop HB.out hcmB)
            clear hcm hcmB e0 e1 e2
            go_wp2
            go_ret2
            refine ⟨?_, rfl⟩
            rw [skT_on (a := (0, true)) HE.out hpq, HSt.out]
            simp
          · rw [hcm] at q1 hcmB
            have HCm := hide hcmB
            clear hcm hcmB e0 e1 e2
            cases hcr : cmt 0 (s.drop q) with
            | none =>
              have HCr := hide hcr
              have HSt := hide (show skP (s.drop q) = (0, false) by have h1 := HCm.out; have h2 := HCr.out; rw [HE0.out] at h1 h2 ⊢; exact skP_none HB.out h1 h2)
              have z0 : cmR q none = -1 := rfl
              clear hcr
              go_wp2_with (go_at_call 35; refine (comment_at s q _ hs HCm.out).mono ?_; rw [HCr.out]; rintro e w' ⟨rfl, hw⟩; replace hw := hw.symm; subst hw)
              go_ret2
              refine ⟨?_, rfl⟩
              rw [skT_on (a := (0, true)) HE.out hpq, HSt.out]
              simp
            | some k =>
              have HCr := hide hcr
              have hk := cmt_le _ _ _ hcr
              rw [List.length_drop] at hk
              have HSt := hide (show skP (s.drop q) = ((skP (s.drop (q + k))).1 + k, (skP (s.drop (q + k))).2) by have h1 := HCm.out; have h2 := HCr.out; rw [show s.drop (q + k) = (s.drop q).drop k by rw [List.drop_drop]]; rw [HE0.out] at h1 h2 ⊢; exact skP_cmt HB.out h1 h2)
              have z0 : cmR q (some k) = (q : Int) + k := rfl
              have z1 : ¬ (q : Int) + k < 0 := by omega
              clear hcr
              go_wp2_with (go_at_call 35; refine (comment_at s q _ hs HCm.out).mono ?_; rw [HCr.out]; rintro e w' ⟨rfl, hw⟩; replace hw := hw.symm; subst hw)
              refine ⟨⟨q + k, by omega, by omega, by go_num, hide ?_⟩, by simp [intOf]; omega⟩
              rw [HE.out, HSt.out]
              simp only []
              rw [show (skP (s.drop (q + k))).1 + k + (q - p) = (skP (s.drop (q + k))).1 + (q + k - p) by omega]
        · have i1 : ¬ (q : Int) + 1 < s.length := by omega
          have hr0 : r = [] := by rw [← HE1.out]; exact List.drop_of_length_le (by omega)
          have HSt := hide (show skP (s.drop q) = (0, true) by rw [HE0.out, hr0]; exact skP_stop HB.out rfl)
          clear hr0
          go_wp2
          go_ret2
          refine ⟨?_, rfl⟩
          rw [skT_on (a := (0, true)) HE.out hpq, HSt.out]
          simp
      · have HB := hide hbl
        have hcs : c = 9 ∨ c = 10 ∨ c = 13 ∨ c = 32 := by simp [blkN] at hbl; rcases hbl with ((h | h) | h) | h <;> simp [h]
        clear hbl
        rcases hcs with e | e | e | e
        · obtain rfl : V = 9 := by rw [← hV, e]; rfl
          clear e
          go_wp2
          refine ⟨⟨q + 1, by omega, by omega, by go_num, hide ?_⟩, by simp [intOf]; omega⟩; rw [HE.out, HE0.out, skP_blank HB.out, HE1.out]; simp only []; rw [show (skP r).1 + 1 + (q - p) = (skP r).1 + (q + 1 - p) by omega]
        · obtain rfl : V = 10 := by rw [← hV, e]; rfl
          clear e
          go_wp2
          refine ⟨⟨q + 1, by omega, by omega, by go_num, hide ?_⟩, by simp [intOf]; omega⟩; rw [HE.out, HE0.out, skP_blank HB.out, HE1.out]; simp only []; rw [show (skP r).1 + 1 + (q - p) = (skP r).1 + (q + 1 - p) by omega]
        · obtain rfl : V = 13 := by rw [← hV, e]; rfl
          clear e
          go_wp2
          refine ⟨⟨q + 1, by omega, by omega, by go_num, hide ?_⟩, by simp [intOf]; omega⟩; rw [HE.out, HE0.out, skP_blank HB.out, HE1.out]; simp only []; rw [show (skP r).1 + 1 + (q - p) = (skP r).1 + (q + 1 - p) by omega]
        · obtain rfl : V = 32 := by rw [← hV, e]; rfl
          clear e
          go_wp2
          refine ⟨⟨q + 1, by omega, by omega, by go_num, hide ?_⟩, by simp [intOf]; omega⟩; rw [HE.out, HE0.out, skP_blank HB.out, HE1.out]; simp only []; rw [show (skP r).1 + 1 + (q - p) = (skP r).1 + (q + 1 - p) by omega]
    · have j1 : ¬ (q : Int) < s.length := by omega
      obtain rfl : q = s.length := by omega
      have HSt := hide (show skP (s.drop s.length) = (0, true) by rw [List.drop_length]; rfl)
      go_wp2
      go_ret2
      refine ⟨?_, rfl⟩
      rw [skT_on (a := (0, true)) HE.out hpq, HSt.out]
      simp
end Go.Proofs.YthnkkcamfcmhmaaDoor.Lx
