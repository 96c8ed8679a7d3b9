/-
  TokenSpread, walked.
-/
import Derived.Test.YthnkkcamfcmhmaaDoorTkjn
namespace Go.Proofs.YthnkkcamfcmhmaaDoor.Lx
open Go.RowKit Go.Proofs.YthnkkcamfcmhmaaDoor.Tx
set_option linter.unusedVariables false
set_option linter.unusedSimpArgs false
set_option maxRecDepth 100000

/- Tokens' places rise. -/
theorem lexV_rise : ∀ (ts : List Tk) (x : List UInt8) (a : Nat), lexV x a = .ok ts → (∀ t ∈ ts, (a : Int) ≤ t.a ∧ t.a ≤ (a : Int) + x.length) ∧ ∀ i t u, ts[i]? = some t → ts[i + 1]? = some u → t.a ≤ u.a
  | [], x, a, h => ⟨by simp, by simp⟩
  | t :: us, x, a, h => by
    obtain ⟨_, h1, h2, len, _, h4, h5, h6⟩ := lexV_cons h
    obtain ⟨ih1, ih2⟩ := lexV_rise us _ _ h6
    have hl : (x.drop ((skP x).1 + len)).length = x.length - ((skP x).1 + len) := by rw [List.length_drop]
    refine ⟨fun u hu => ?_, fun i v u hv hu => ?_⟩
    · rcases List.mem_cons.1 hu with rfl | hu
      · rw [h2]; omega
      · have := ih1 u hu
        omega
    · cases i with
      | zero =>
        simp at hv
        subst hv
        have hu' : u ∈ us := List.mem_of_getElem? (by simpa using hu)
        have := ih1 u hu'
        rw [h2]; omega
      | succ i => exact ih2 i v u (by simpa using hv) (by simpa using hu)
/- Where the i-th piece begins. -/
def lstN (ts : List Tk) : Nat → Nat
  | 0 => 0
  | i + 1 => ((ts[i]?).map (fun t => t.a.toNat)).getD 0
theorem lst_le {ts : List Tk} {s : List UInt8} (h : lexV s 0 = .ok ts) {i : Nat} {t : Tk} (ht : ts[i]? = some t) : lstN ts i ≤ t.a.toNat ∧ t.a.toNat ≤ s.length ∧ 0 ≤ t.a := by
  obtain ⟨h1, h2⟩ := lexV_rise ts s 0 h
  have hb := h1 t (List.mem_of_getElem? ht)
  refine ⟨?_, by omega, by omega⟩
  cases i with
  | zero => exact Nat.zero_le _
  | succ i =>
    have hi : i < ts.length := by have := (List.getElem?_eq_some_iff.1 ht).1; omega
    have := h2 i ts[i] t (List.getElem?_eq_getElem hi) ht
    simp [lstN, hi]
    omega
theorem spr_next {B s : List UInt8} {ts : List Tk} {i : Nat} {t : Tk} (ht : ts[i]? = some t) (hl : lstN ts i ≤ t.a.toNat) : spr B (s.drop (lstN ts i)) (lstN ts i) (ts.drop i) = ((s.drop (lstN ts i)).take (t.a.toNat - lstN ts i) ++ B) ++ spr B (s.drop (lstN ts (i + 1))) (lstN ts (i + 1)) (ts.drop (i + 1)) := by
  obtain ⟨hi, rfl⟩ := List.getElem?_eq_some_iff.1 ht
  have e : lstN ts (i + 1) = ts[i].a.toNat := by simp [lstN, hi]
  rw [List.drop_eq_getElem_cons hi, spr, e, List.drop_drop, show lstN ts i + (ts[i].a.toNat - lstN ts i) = ts[i].a.toNat by omega, List.append_assoc]
theorem lexP_of {s : List UInt8} {us : List Tk} (h : lexV s 0 = .ok us) (h6 : us.length ≤ 6000) (hl : s.length ≤ 16384) : lexP s = .ok us := by
  rw [lexP, if_neg (by omega)]
  have := lexG_of _ s 0 0 us (by rw [List.drop_zero]; exact h) (by omega)
  rw [List.drop_zero, Nat.zero_add] at this
  exact this
theorem all_no {f : UInt8 → Bool} {s : List UInt8} {q : Nat} {c : UInt8} (h : s[q]? = some c) (hf : f c = false) : s.all f = false := all_not h hf
set_option maxHeartbeats 8000000 in
theorem wsprd_walk (w : World) (A : Gt w) (s0 : List UInt8) (z0 : s0.length ≤ maxLen) (s1 : List UInt8) (z1 : s1.length ≤ maxLen) :
    Calls Tryd.prog 6 #[.string (bs s0), .string (bs s1)] w fun e w' => e = .returned (.bool true) ∧ w.grownBy w' none := by
  have hsz := bs_size s0
  have hsz1 := bs_size s1
  have HW := hide (fun W (h : w.grownBy W none) => wakes_at W (A.g h))
  have HG0 := hide (g_refl w)
  have z0' : (s0.length : Int) ≤ 9223372036854775807 := by unfold maxLen at z0; omega
  have z1' : (s1.length : Int) ≤ 9223372036854775807 := by unfold maxLen at z1; omega
  by_cases hn : 800 < s0.length
  · have k3 : (800 : Int) < s0.length := by omega
    clear A z0 z1
    go_enter Tryd.func6, Tryd.ntmps6
    go_wp2_with (go_at_call 8; refine (HW.out _ HG0.out).mono ?_; rintro e wz ⟨rfl, hg⟩; have GZ := hide (grown_trans HG0.out hg); clear hg)
    go_ret
    exact ⟨rfl, GZ.out⟩
  have k3 : ¬ (800 : Int) < s0.length := by omega
  by_cases hn2 : 6 < s1.length
  · have k4 : (6 : Int) < s1.length := by omega
    clear A z0 z1
    go_enter Tryd.func6, Tryd.ntmps6
    go_wp2_with (go_at_call 8; refine (HW.out _ HG0.out).mono ?_; rintro e wz ⟨rfl, hg⟩; have GZ := hide (grown_trans HG0.out hg); clear hg)
    go_ret
    exact ⟨rfl, GZ.out⟩
  have k4 : ¬ (6 : Int) < s1.length := by omega
  have l0 : (s0.length : Int) ≤ 800 := by omega
  have l1 : (s1.length : Int) ≤ 6 := by omega
  have HAw := hide A
  clear A hn hn2 z0' z1'
  go_enter Tryd.func6, Tryd.ntmps6
  go_wp2
  go_loop [5] (fun iv => ∃ i : Nat, i ≤ s1.length ∧ iv = .int .i64 i ∧ Hid ((s1.take i).all blkN = true)) (fun iv => s1.length - (intOf iv).toNat)
  case atStart => exact ⟨0, Nat.zero_le _, rfl, hide rfl⟩
  case round =>
    obtain ⟨i, hi, rfl, HA⟩ := hrel
    by_cases hlt : i < s1.length
    · have j1 : (i : Int) < s1.length := by omega
      obtain ⟨c, hc⟩ : ∃ c, s1[i] = c := ⟨_, rfl⟩
      have hb : ∀ h, (bs s1)[i]'h = c := fun h => hc
      have HC := hide (show s1[i]? = some c by rw [List.getElem?_eq_getElem hlt, hc])
      obtain ⟨V, hV⟩ : ∃ V : Int, (c.toNat : Int) = V := ⟨_, rfl⟩
      cases hbl : blkN c
      · have n9 : (V != 9) = true := by
          have : c ≠ 9 := by rintro rfl; simp [blkN] at hbl
          have h2 : c.toNat ≠ 9 := fun e => this (UInt8.toNat_inj.1 e)
          rw [← hV]; simp; omega
        have n10 : (V != 10) = true := by
          have : c ≠ 10 := by rintro rfl; simp [blkN] at hbl
          have h2 : c.toNat ≠ 10 := fun e => this (UInt8.toNat_inj.1 e)
          rw [← hV]; simp; omega
        have n13 : (V != 13) = true := by
          have : c ≠ 13 := by rintro rfl; simp [blkN] at hbl
          have h2 : c.toNat ≠ 13 := fun e => this (UInt8.toNat_inj.1 e)
          rw [← hV]; simp; omega
        have n32 : (V != 32) = true := by
          have : c ≠ 32 := by rintro rfl; simp [blkN] at hbl
          have h2 : c.toNat ≠ 32 := fun e => this (UInt8.toNat_inj.1 e)
          rw [← hV]; simp; omega
        clear hbl hc
        go_wp2_with (go_at_call 8; refine (HW.out _ HG0.out).mono ?_; rintro e wz ⟨rfl, hg⟩; have GZ := hide (grown_trans HG0.out hg); clear hg)
        go_ret
        exact ⟨rfl, GZ.out⟩
      · have HN := hide (all_on HC.out HA.out hbl)
        have hcs : c = 9 ∨ c = 10 ∨ c = 13 ∨ c = 32 := by simp [blkN] at hbl; rcases hbl with ((h | h) | h) | h <;> simp [h]
        clear hbl hc
        rcases hcs with e | e | e | e
        · obtain rfl : V = 9 := by rw [← hV, e]; rfl
          clear e
          go_wp2
          exact ⟨⟨i + 1, by omega, by go_num, HN⟩, by simp [intOf]; omega⟩
        · obtain rfl : V = 10 := by rw [← hV, e]; rfl
          clear e
          go_wp2
          exact ⟨⟨i + 1, by omega, by go_num, HN⟩, by simp [intOf]; omega⟩
        · obtain rfl : V = 13 := by rw [← hV, e]; rfl
          clear e
          go_wp2
          exact ⟨⟨i + 1, by omega, by go_num, HN⟩, by simp [intOf]; omega⟩
        · obtain rfl : V = 32 := by rw [← hV, e]; rfl
          clear e
          go_wp2
          exact ⟨⟨i + 1, by omega, by go_num, HN⟩, by simp [intOf]; omega⟩
    · obtain rfl : i = s1.length := by omega
      have HBl := hide (show s1.all blkN = true by have := HA.out; rwa [List.take_length] at this)
      clear HA
      cases hL : lexP s0 with
      | error ac =>
        obtain ⟨a, c⟩ := ac
        have hc0 := lexP_code hL
        have hc1 : (c != 0) = true := by simpa using hc0
        have H1 := hide (plex_err s0 w HAw.out z0 hL)
        have hpl := lexV_place s0.length s0 0 a c (Nat.le_refl _) (by rw [← lexP_few (by omega)]; exact hL)
        obtain ⟨p0, p1⟩ := hpl
        have q0 : 0 ≤ a := by omega
        have q1 : a < s0.length := by omega
        clear hL hc0 p0 p1
        go_wp2_with (first
          | (go_at_call 9; refine H1.out.mono ?_; rintro e w1 ⟨rfl, hg⟩; have G1 := hide hg; clear hg)
          | (go_at_call 8; refine (HW.out _ G1.out).mono ?_; rintro e wz ⟨rfl, hg⟩; have GZ := hide (grown_trans G1.out hg); clear hg))
        go_ret
        exact ⟨rfl, GZ.out⟩
      | ok ts =>
        have H1 := hide (plex_ok s0 w HAw.out z0 hL)
        have hLV : lexV s0 0 = .ok ts := by rw [← lexP_few (by omega)]; exact hL
        have htl : ts.length ≤ 801 := by
          have := hL
          unfold lexP at this
          rw [if_neg (by omega)] at this
          have := lexG_len _ _ _ _ _ _ this
          omega
        have tl' : (ts.length : Int) ≤ 801 := by omega
        obtain ⟨⟨us, hus, hul, hsm⟩, _⟩ := spr_lex (B := s1 ++ cB) (skP_pre HBl.out) (pre_first HBl.out) ts s0 0 0 hLV
        have HLt := hide (fun (i : Nat) (t : Tk) (h : ts[i]? = some t) => lst_le hLV h)
        have HUs := hide hus
        have HUl := hide hul
        have HSm := hide hsm
        have bE : (⟨#[]⟩ : ByteArray) = bs [] := rfl
        have bC : (⟨#[40, 42, 32, 120, 32, 40, 42, 32, 42, 41, 32, 34, 32, 42, 41]⟩ : ByteArray) = bs cB := rfl
        have bT : (⟨#[32, 40, 42, 42, 42, 41]⟩ : ByteArray) = bs tB := rfl
        clear hL hLV hus hul hsm
        go_wp2_with (go_at_call 9; refine H1.out.mono ?_; rintro e w1 ⟨o1, c1, rfl, ho, hg⟩; have G1 := hide hg; have O1 := hide ho.at'; clear hg ho)
        go_loop [9, 10, 11] (fun tv lv iv => ∃ (i : Nat) (tx : List UInt8), i ≤ ts.length ∧ tv = .string (bs tx) ∧ lv = .int .i64 (lstN ts i : Nat) ∧ iv = .int .i64 i ∧ tx.length ≤ 822 * i ∧ Hid (lstN ts i ≤ s0.length) ∧ Hid (spr (s1 ++ cB) s0 0 ts = tx ++ spr (s1 ++ cB) (s0.drop (lstN ts i)) (lstN ts i) (ts.drop i))) (fun _ _ iv => ts.length - (intOf iv).toNat)
        case atStart => exact ⟨0, [], Nat.zero_le _, rfl, rfl, rfl, by simp, hide (Nat.zero_le _), hide (by simp [lstN])⟩
        case round =>
          obtain ⟨i, tx, hi, rfl, rfl, rfl, htx, HLs, HE⟩ := hrel
          obtain ⟨ls, hls⟩ : ∃ ls, lstN ts i = ls := ⟨_, rfl⟩
          rw [hls] at HLs HE ⊢
          have hll := HLs.out
          have hli : (ls : Int) ≤ s0.length := by omega
          by_cases hlt2 : i < ts.length
          · have k1 : (i : Int) < ts.length := by omega
            obtain ⟨A1, rfl⟩ : ∃ ad, o1 = some ad := by
              cases o1 with
              | none => have := O1.out.nil' rfl; omega
              | some ad => exact ⟨ad, rfl⟩
            obtain ⟨P, hP⟩ : ∃ P, A1.add (i * 4) = P := ⟨_, rfl⟩
            have t1 := O1.out.at' A1 rfl i hlt2
            rw [hP] at t1
            obtain ⟨x, hx⟩ : ∃ x, ts[i] = x := ⟨_, rfl⟩
            rw [hx] at t1
            have hxi : ts[i]? = some x := by rw [List.getElem?_eq_getElem hlt2, hx]
            obtain ⟨x0, x1, x2, x3⟩ := four_of' t1
            obtain ⟨q1, q2, q3⟩ := HLt.out i x hxi
            have hsn := spr_next (B := s1 ++ cB) (s := s0) hxi q1
            have hle : lstN ts (i + 1) = x.a.toNat := by simp [lstN, hxi]
            rw [hls] at hsn q1
            obtain ⟨xa, hxa⟩ := Int.eq_ofNat_of_zero_le q3
            have hxn : x.a.toNat = xa := by rw [hxa]; rfl
            rw [hxn] at hsn q1 q2 hle
            rw [hxa] at x3
            rw [hle] at hsn
            have HLe := hide hle
            have hex : (bs s0).extract ls xa = bs ((s0.drop ls).take (xa - ls)) := bs_ext s0 ls xa
            obtain ⟨X, hX⟩ : ∃ X, (s0.drop ls).take (xa - ls) = X := ⟨_, rfl⟩
            rw [hX] at hex hsn
            have hXl : X.length ≤ 800 := by rw [← hX, List.length_take, List.length_drop]; omega
            obtain ⟨Y, hY⟩ : ∃ Y, X ++ s1 = Y := ⟨_, rfl⟩
            have hYl : Y.length ≤ 806 := by rw [← hY, List.length_append]; omega
            obtain ⟨Z, hZ⟩ : ∃ Z, Y ++ cB = Z := ⟨_, rfl⟩
            have hZl : Z.length ≤ 821 := by rw [← hZ, List.length_append]; simp [cB]; omega
            obtain ⟨Q, hQ⟩ : ∃ Q, tx ++ Z = Q := ⟨_, rfl⟩
            have hQl : Q.length ≤ 822 * (i + 1) := by rw [← hQ, List.length_append]; omega
            have ha1 : ∀ W : World, (Op.stringOp .add (bs X) (bs s1)).run Tryd.prog W = .ok (.string (bs Y)) W := fun W => by
              rw [run_string_add_sum W _ _ (by rw [bs_size, bs_size]; omega), bs_append, hY]
            have ha2 : ∀ W : World, (Op.stringOp .add (bs Y) (bs cB)).run Tryd.prog W = .ok (.string (bs Z)) W := fun W => by
              rw [run_string_add_sum W _ _ (by rw [bs_size, bs_size]; simp [cB]; omega), bs_append, hZ]
            have ha3 : ∀ W : World, (Op.stringOp .add (bs tx) (bs Z)).run Tryd.prog W = .ok (.string (bs Q)) W := fun W => by
              rw [run_string_add_sum W _ _ (by rw [bs_size, bs_size]; omega), bs_append, hQ]
            have HN := hide (show spr (s1 ++ cB) s0 0 ts = Q ++ spr (s1 ++ cB) (s0.drop xa) xa (ts.drop (i + 1)) by rw [HE.out, hsn, ← hQ, ← hZ, ← hY]; simp [List.append_assoc])
            have j1 : (ls : Int) ≤ xa := by omega
            have j2 : (xa : Int) ≤ s0.length := by omega
            have HQl := hide hQl
            clear t1 hx hxi q1 q2 q3 hsn hle hxn hxa hX hY hZ hQ htx hQl
            go_wp2
            exact ⟨⟨i + 1, Q, by omega, rfl, by rw [HLe.out], by go_num, HQl.out, hide (by rw [HLe.out]; omega), by rw [HLe.out]; exact HN⟩, by simp [intOf]; omega⟩
          · obtain rfl : i = ts.length := by omega
            have hex := ext_end s0 ls
            obtain ⟨X, hX⟩ : ∃ X, s0.drop ls = X := ⟨_, rfl⟩
            have hXl : X.length ≤ 800 := by rw [← hX, List.length_drop]; omega
            rw [hX] at hex HE
            obtain ⟨Y, hY⟩ : ∃ Y, X ++ tB = Y := ⟨_, rfl⟩
            have hYl : Y.length ≤ 806 := by rw [← hY, List.length_append]; simp [tB]; omega
            obtain ⟨Q, hQ⟩ : ∃ Q, tx ++ Y = Q := ⟨_, rfl⟩
            have hQl : Q.length ≤ 700000 := by rw [← hQ, List.length_append]; omega
            have hQi : (Q.length : Int) ≤ 700000 := by omega
            have ha1 : ∀ W : World, (Op.stringOp .add (bs X) (bs tB)).run Tryd.prog W = .ok (.string (bs Y)) W := fun W => by
              rw [run_string_add_sum W _ _ (by rw [bs_size, bs_size]; simp [tB]; omega), bs_append, hY]
            have ha2 : ∀ W : World, (Op.stringOp .add (bs tx) (bs Y)).run Tryd.prog W = .ok (.string (bs Q)) W := fun W => by
              rw [run_string_add_sum W _ _ (by rw [bs_size, bs_size]; omega), bs_append, hQ]
            have HQ := hide (show spr (s1 ++ cB) s0 0 ts = Q by rw [HE.out, List.drop_length, spr, hY, hQ])
            have hsq := bs_size Q
            clear hX hY hQ htx
            by_cases h16 : 16384 < Q.length
            · have i16 : (16384 : Int) < Q.length := by omega
              go_wp2_with (go_at_call 8; refine (HW.out _ G1.out).mono ?_; rintro e wz ⟨rfl, hg⟩; have GZ := hide (grown_trans G1.out hg); clear hg)
              go_ret
              exact ⟨rfl, GZ.out⟩
            · have i16 : ¬ (16384 : Int) < Q.length := by omega
              have hlq : lexP Q = .ok us := lexP_of (by rw [← HQ.out]; exact HUs.out) (by rw [HUl.out]; omega) (by omega)
              have H2 := hide (fun W (h : w.grownBy W none) => plex_ok Q W (HAw.out.g h) (by unfold maxLen; omega) hlq)
              have hs3 := HSm.out
              have hul := HUl.out
              have HLu := hide (show us.length ≤ 1000000 by omega)
              clear hlq hul
              go_wp2_with (first
                | (go_at_call 9; refine (H2.out _ G1.out).mono ?_; rintro e w2 ⟨o2, c2, rfl, ho, hg⟩; have T1 := hide (O1.out.kept hg); have T2 := hide ho.at'; have G2 := hide (grown_trans G1.out hg); clear hg ho)
                | (go_at_call 11; refine (same_at _ o1 o2 c1 c2 ts us false (by omega) HLu.out T1.out T2.out).mono ?_; rintro e w3 ⟨rfl, hg⟩; have G3 := hide (grown_trans G2.out hg); clear hg)
                | (go_at_call 8; refine (HW.out _ G3.out).mono ?_; rintro e wz ⟨rfl, hg⟩; have GZ := hide (grown_trans G3.out hg); clear hg))
              go_ret
              exact ⟨rfl, GZ.out⟩
end Go.Proofs.YthnkkcamfcmhmaaDoor.Lx
