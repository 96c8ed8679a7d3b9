/-
  Package token: Lex.
-/
import Derived.Test.YthnkkcamfcmhmaaDoorPk4
import Derived.Test.YthnkkcamfcmhmaaDoorPk7
import Derived.Test.YthnkkcamfcmhmaaDoorLr7
namespace Go.Proofs.YthnkkcamfcmhmaaDoor.Lx
open Go.RowKit Go.Maps Go.Proofs.YthnkkcamfcmhmaaDoor.Tx Go.Proofs.YthnkkcamfcmhmaaDoor.Mp
set_option linter.unusedVariables false
set_option linter.unusedSimpArgs false
set_option maxRecDepth 100000

theorem clone_at (s : List UInt8) (hs : s.length ≤ 1000000) (w : World) : Calls Tryd.prog 14 #[.string (bs s)] w fun e w' => e = .returned (.string (bs s)) ∧ w.grownBy w' none := by
  have HI := hide (Tryd.stringslite_Clone (bs s) w (by rw [bs_size]; omega))
  clear hs
  go_enter Tryd.func14, Tryd.ntmps14
  go_wp2_with (go_at_call 25; refine HI.out.mono ?_; rintro e w1 ⟨rfl, hb⟩; have HG := hide (below_g hb); clear hb)
  go_ret
  exact ⟨rfl, HG.out⟩
theorem one_err {x : List UInt8} {e : Int} (h : oneT x 0 = .error e) (b : Int) : oneT x b = .error e := by
  have := oneT_sh x 0 b
  rw [h, Int.zero_add] at this
  exact this
theorem Tb.row {w w' : World} {tb M n : Nat} {v : Value} {xs : List Value} (T : Tb w tb) (ho : w.ownsRow M 37 4 v n xs) (hg : w.grownBy w' v.ownBlock) : Tb w' tb := by
  rcases ho.2 with ⟨rfl, _⟩ | ⟨g, cap, cur, rfl, _, hb, _⟩
  · exact T.kept hg
  · have hg' : w.grownBy w' (some g) := hg
    obtain ⟨R, fr, hR⟩ := T.blk
    obtain ⟨mb, hc, hm⟩ := T.keys
    have h1 : tb ≠ g := by
      rintro rfl
      rw [hR] at hb
      simp at hb
    have h2 : mb ≠ g := by
      rintro rfl
      obtain ⟨es, c, hmb, _⟩ := hm.own
      rw [hmb] at hb
      cases hb
    have e := hg'.block tb T.lt (by simp [h1])
    refine ⟨fun j hj => ?_, ⟨mb, ?_, hm.kept hg' (by simp [h2])⟩, R, fr, e.trans hR⟩
    · rw [← T.cell j hj]; simp [World.cell?, e]
    · rw [← hc]; simp [World.cell?, e]
theorem plex_long (s : List UInt8) (w : World) (hm : s.length ≤ maxLen) (h : 16384 < s.length) :
    Calls Tryd.prog 9 #[.string (bs s)] w fun e w' => LexR w w' (lexP s) e ∧ w.grownBy w' none := by
  have hsz := bs_size s
  have j1 : (16384 : Int) < s.length := by omega
  have j2 : (s.length : Int) ≤ 9223372036854775807 := by unfold maxLen at hm; omega
  have HP := hide (show lexP s = .error (0, 2) by unfold lexP; rw [if_pos h])
  clear hm h
  go_enter Tryd.func9, Tryd.ntmps9
  go_wp2
  go_ret3
  refine ⟨?_, g_refl _⟩
  rw [HP.out]
  rfl
set_option maxHeartbeats 8000000 in
theorem plex_at (s : List UInt8) (w : World) (A : Gt w) (hl : s.length ≤ 16384) :
    Calls Tryd.prog 9 #[.string (bs s)] w fun e w' => LexR w w' (lexP s) e ∧ w.grownBy w' none := by
  have hsz := bs_size s
  have hs : s.length ≤ 900000 := by omega
  have j1 : ¬ (16384 : Int) < s.length := by omega
  have j2 : (s.length : Int) ≤ 16384 := by omega
  have HCl := hide (clone_at s (by omega) w)
  have HNw := hide (fun W (h : w.grownBy W none) => new_at W (A.g h))
  have HAw := hide A
  have HP := hide (show lexP s = ahead [] (lexG (s.length + 1) s (0 + (skP (s.drop 0)).1) (skP (s.drop 0)).2 ([] : List Tk).length) by rw [ahead_nil]; unfold lexP; rw [if_neg (by omega), Nat.zero_add]; rfl)
  clear A
  go_enter Tryd.func9, Tryd.ntmps9
  go_wp2_with (first
    | (go_at_call 14; refine HCl.out.mono ?_; rintro e w1 ⟨rfl, hg⟩; have G1 := hide hg; clear hg)
    | (go_at_call 15; refine (HNw.out _ G1.out).mono ?_; rintro e w2 ⟨tb, rfl, hT, hg⟩; have HT0 := hide hT; have G2 := hide (grown_trans G1.out hg); clear hg hT))
  go_loopw [6, 7, 8, 9, 10, 11] (fun lv av x8 x9 x10 x11 W => ∃ (v : Value) (q : Nat) (d : List Tk) (n : Nat) (y8 y9 y10 y11 : Value), q ≤ s.length ∧ lv = v ∧ av = .int .i64 q ∧ x8 = y8 ∧ x9 = y9 ∧ x10 = y10 ∧ x11 = y11 ∧ d.length ≤ 6000 ∧ Hid (s.length + 1 ≤ q + n) ∧ Hid (W.ownsRow w.heap.size 37 4 v d.length (tkL d)) ∧ Hid (w.grownBy W none) ∧ Hid (Tb W tb) ∧ Hid (lexP s = ahead d (lexG n s (q + (skP (s.drop q)).1) (skP (s.drop q)).2 d.length))) (fun _ av _ _ _ _ _ => s.length + 1 - (intOf av).toNat)
  case atStart => exact ⟨.slice none 0 0, 0, [], s.length + 1, _, _, _, _, Nat.zero_le _, rfl, rfl, rfl, rfl, rfl, rfl, by simp, hide (by omega), hide ⟨rfl, .inl ⟨rfl, rfl⟩⟩, G2, HT0, HP⟩
  case round =>
    obtain ⟨v, q, d, n, y8, y9, y10, y11, hq, rfl, rfl, rfl, rfl, rfl, rfl, hd, HN, HO, HG, HT, HE⟩ := hrel
    clear HP HT0 HCl HNw
    obtain ⟨da, cp, hv⟩ := own_shape4 HO.out
    subst hv
    have hd6 : (d.length : Int) ≤ 6000 := by omega
    have j0 : (q : Int) ≤ s.length := by omega
    have hx1 := ext_end s q
    have HGp := hide (gap_at (s.drop q) _ tb HT.out (by rw [List.length_drop]; omega))
    have hk := skP_le (s.drop q)
    rw [List.length_drop] at hk
    unfold gapV at HGp
    obtain ⟨so, hso⟩ : ∃ o, (skP (s.drop q)).1 = o := ⟨_, rfl⟩
    obtain ⟨sb, hsb⟩ : ∃ b, (skP (s.drop q)).2 = b := ⟨_, rfl⟩
    rw [hso, hsb] at HGp HE
    rw [hso] at hk
    clear hso hsb
    obtain ⟨p, hp⟩ : ∃ p, q + so = p := ⟨_, rfl⟩
    have hpi : (q : Int) + so = p := by omega
    rw [hp] at HE
    have hps : p ≤ s.length := by omega
    have j3 : (p : Int) ≤ s.length := by omega
    have HQP := hide (show q ≤ p by omega)
    have hx2 := ext_end s p
    clear hp hk
    cases n with
    | zero => have := HN.out; omega
    | succ n =>
    cases sb with
    | false =>
      have HB := hide (show lexP s = .error ((p : Int), 90) by rw [HE.out, lexG_bad]; rfl)
      simp only [Bool.false_eq_true, if_false] at HGp
      go_wp2_with (go_at_call 16; refine HGp.out.mono ?_; rintro e w1 ⟨rfl, hg⟩; have G1 := hide (grown_trans HG.out hg); have O1 := hide (HO.out.kept hg (none_or _)); have T1 := hide (HT.out.kept hg); clear hg)
      go_ret3
      refine ⟨?_, G1.out⟩
      rw [HB.out]
      rfl
    | true =>
      simp only [if_true] at HGp
      by_cases hlt : p < s.length
      · have i1 : ((p : Int) == s.length) = false := by simp; omega
        have hdl : (s.drop p).length ≤ 900000 := by rw [List.length_drop]; omega
        rcases oneT_is (t := s.drop p) (a := 0) with herr | ⟨t, len, ho, l1, l2⟩
        · obtain ⟨ec, hec, e0⟩ : ∃ ec : Int, oneT (s.drop p) 0 = .error ec ∧ (ec == 0) = false ∧ (ec != 0) = true := by
            rcases herr with h | h | h
            · exact ⟨90, h, by decide, by decide⟩
            · exact ⟨91, h, by decide, by decide⟩
            · exact ⟨2, h, by decide, by decide⟩
          obtain ⟨e1, e2⟩ := e0
          have HB := hide (show lexP s = .error ((p : Int), ec) by rw [HE.out, lexG_err hlt (one_err hec p)]; rfl)
          have HEc := hide hec
          clear herr hec
          go_wp2_with (first
            | (go_at_call 16; refine HGp.out.mono ?_; rintro e w1 ⟨rfl, hg⟩; have G1 := hide (grown_trans HG.out hg); have O1 := hide (HO.out.kept hg (none_or _)); have T1 := hide (HT.out.kept hg); clear hg)
            | (go_at_call 17; refine (first_at (s.drop p) _ tb T1.out (HAw.out.g G1.out) hdl).mono ?_; rw [HEc.out]; rintro e wk ⟨v, rfl, ⟨tk, tx, tn, ta, rfl⟩, hg⟩; have GK := hide (grown_trans G1.out hg); clear hg))
          go_ret3
          refine ⟨?_, grown_trans GK.out (alloc_g _ _)⟩
          rw [HB.out]
          rfl
        · have HOk := hide ho
          have ho' := one_any ho (p : Int)
          rw [List.length_drop] at l2
          by_cases h6 : d.length = 6000
          · have HB := hide (show lexP s = .error ((p : Int), 3) by rw [HE.out, h6, lexG_many hlt ho']; rfl)
            have e6 : ((d.length : Int) == 6000) = true := by rw [h6]; rfl
            have HD6 := hide h6
            clear ho h6 ho'
            go_wp2_with (first
              | (go_at_call 16; refine HGp.out.mono ?_; rintro e w1 ⟨rfl, hg⟩; have G1 := hide (grown_trans HG.out hg); have O1 := hide (HO.out.kept hg (none_or _)); have T1 := hide (HT.out.kept hg); clear hg)
              | (go_at_call 17; refine (first_at (s.drop p) _ tb T1.out (HAw.out.g G1.out) hdl).mono ?_; rw [HOk.out]; rintro e wk ⟨v, rfl, hv, hg⟩; replace hv := show v = _ from hv; subst hv; have GK := hide (grown_trans G1.out hg); clear hg))
            go_ret3
            refine ⟨?_, grown_trans GK.out (alloc_g _ _)⟩
            rw [HB.out]
            rfl
          · have e6 : ((d.length : Int) == 6000) = false := by simp; omega
            have HB := hide (show lexP s = ahead (d ++ [pl t p]) (lexG n s (p + len + (skP (s.drop (p + len))).1) (skP (s.drop (p + len))).2 (d ++ [pl t p]).length) by rw [HE.out, lexG_on hlt h6 ho', ahead_cons, List.length_append]; rfl)
            have HH6 := hide h6
            have z0 : ((0 : Nat) : Int) + (len : Nat) = (len : Int) := by omega
            clear ho h6 ho'
            go_wp2_with (first
              | (go_at_call 16; refine HGp.out.mono ?_; rintro e w1 ⟨rfl, hg⟩; have G1 := hide (grown_trans HG.out hg); have O1 := hide (HO.out.kept hg (none_or _)); have T1 := hide (HT.out.kept hg); clear hg)
              | (go_at_call 17; refine (first_at (s.drop p) _ tb T1.out (HAw.out.g G1.out) hdl).mono ?_; rw [HOk.out]; rintro e wk ⟨v, rfl, hv, hg⟩; replace hv := show v = _ from hv; subst hv; have GK := hide (grown_trans G1.out hg); have OK := hide (O1.out.kept hg (none_or _)); have TK := hide (T1.out.kept hg); clear hg)
              | (at_builtin; refine wp_appT rfl _ _ rfl w.heap.size (.slice da d.length cp) d rfl ((OK.out.alloc _).alloc _) (wk.heap.size + 1) (pl t p) rfl (cell_fourS wk (pl t p)) (by omega) (by have := GK.out.size; simp; omega) ?_; intro d1 n1 p1 w3 h1 h2 h3; have O3 := hide h1; have G3 := hide (grown_row GK.out OK.out h3); have HN1 := hide h2; have T3 := hide (Tb.row (TK.out.kept (two_g _ _ _)) ((OK.out.alloc _).alloc _) h3); clear h1 h2 h3))
            go_roundw
            case rel => exact ⟨_, p + len, d ++ [pl t p], n, _, _, _, _, by omega, rfl, by go_num, rfl, rfl, rfl, rfl, by simp; have := HH6.out; omega, hide (by have := HN.out; have := HQP.out; omega), O3, G3, T3, HB⟩
            case measure => have := HQP.out; simp [intOf]; omega
      · have i1 : ((p : Int) == s.length) = true := by simp; omega
        have HB := hide (show lexP s = .ok d by rw [HE.out, lexG_end hlt]; simp [ahead, Except.map])
        go_wp2_with (go_at_call 16; refine HGp.out.mono ?_; rintro e w1 ⟨rfl, hg⟩; have G1 := hide (grown_trans HG.out hg); have O1 := hide (HO.out.kept hg (none_or _)); have T1 := hide (HT.out.kept hg); clear hg)
        go_ret3
        refine ⟨?_, G1.out⟩
        rw [HB.out]
        exact ⟨_, rfl, O1.out⟩
end Go.Proofs.YthnkkcamfcmhmaaDoor.Lx
