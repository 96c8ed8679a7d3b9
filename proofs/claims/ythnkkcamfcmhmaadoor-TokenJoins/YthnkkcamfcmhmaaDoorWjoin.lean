/-
  TokenJoins, walked.
-/
import Derived.Test.YthnkkcamfcmhmaaDoorTkjn
import Derived.SizedLaws
namespace Go.Proofs.YthnkkcamfcmhmaaDoor.Lx
open Go.RowKit Go.Proofs.YthnkkcamfcmhmaaDoor.Tx
set_option linter.unusedVariables false
set_option linter.unusedSimpArgs false
set_option maxRecDepth 100000

def joD (ts us : List Tk) (L : Int) (i : Nat) : List Tk := ts ++ (us.take i).map (shT L)
theorem take_shT (L : Int) (us : List Tk) {i : Nat} {x : Tk} (h : us[i]? = some x) : (us.take (i + 1)).map (shT L) = (us.take i).map (shT L) ++ [shT L x] := by
  obtain ⟨hi, rfl⟩ := List.getElem?_eq_some_iff.1 h
  rw [List.take_succ_eq_append_getElem hi, List.map_append]
  rfl
theorem joD_next (ts us : List Tk) (L : Int) {i : Nat} {x : Tk} (h : us[i]? = some x) : joD ts us L (i + 1) = joD ts us L i ++ [shT L x] := by
  rw [joD, take_shT L us h, ← List.append_assoc, ← joD]
theorem joD_len (ts us : List Tk) (L : Int) (i : Nat) : (joD ts us L i).length ≤ ts.length + us.length := by
  unfold joD
  simp
  omega
set_option maxHeartbeats 8000000 in
theorem wjoin_walk (w : World) (A : Gt w) (s0 : List UInt8) (z0 : s0.length ≤ maxLen) (b0 : s0.length ≤ reachBytes) (s1 : List UInt8) (z1 : s1.length ≤ maxLen) (b1 : s1.length ≤ reachBytes) :
    Calls Tryd.prog 7 #[.string (bs s0), .string (bs s1)] w fun e w' => e = .returned (.bool true) ∧ w.grownBy w' none := by
  have hsz := bs_size s0
  have hsz1 := bs_size s1
  have HW := hide (fun W (h : w.grownBy W none) => wakes_at W (A.g h))
  have r0 : (s0.length : Int) ≤ 140737488355328 := by have := reachBytes_lt; omega
  have r1 : (s1.length : Int) ≤ 140737488355328 := by have := reachBytes_lt; omega
  have b10 : (⟨#[10]⟩ : ByteArray) = bs [10] := rfl
  by_cases hbig : 4000 < s0.length + s1.length
  · have j1 : (4000 : Int) < (s0.length : Int) + s1.length := by omega
    have HG0 := hide (g_refl w)
    clear A z0 z1 b0 b1
    go_enter Tryd.func7, Tryd.ntmps7
    go_wp2_with (go_at_call 8; refine (HW.out _ HG0.out).mono ?_; rintro e wz ⟨rfl, hg⟩; have GZ := hide (grown_trans HG0.out hg); clear hg)
    go_ret
    exact ⟨rfl, GZ.out⟩
  have j1 : ¬ (4000 : Int) < (s0.length : Int) + s1.length := by omega
  have hsum : s0.length + s1.length ≤ 4000 := by omega
  obtain ⟨S, hS⟩ : ∃ S, s0 ++ [10] = S := ⟨_, rfl⟩
  have hSl : S.length = s0.length + 1 := by rw [← hS]; simp
  obtain ⟨J, hJ⟩ : ∃ J, s0 ++ 10 :: s1 = J := ⟨_, rfl⟩
  have hSJ : S ++ s1 = J := by rw [← hS, ← hJ]; simp
  have hJm : J.length ≤ maxLen := by rw [← hJ]; unfold maxLen; simp; omega
  have hadd1 : ∀ W : World, (Op.stringOp .add (bs s0) (bs [10])).run Tryd.prog W = .ok (.string (bs S)) W := fun W => by
    rw [run_string_add_sum W _ _ (by rw [bs_size, bs_size]; simp; omega), bs_append, hS]
  have hadd2 : ∀ W : World, (Op.stringOp .add (bs S) (bs s1)).run Tryd.prog W = .ok (.string (bs J)) W := fun W => by
    rw [run_string_add_sum W _ _ (by rw [bs_size, bs_size]; omega), bs_append, hSJ]
  have HJ := hide hJ
  clear hbig hSl hSJ b0 b1 hS hJ
  cases hL : lexP s0 with
  | error ac =>
    obtain ⟨a, c⟩ := ac
    have hc0 := lexP_code hL
    have hc1 : (c != 0) = true := by simpa using hc0
    have H1 := hide (plex_err s0 w A z0 hL)
    have H2 := hide (fun W (h : w.grownBy W none) => plex_shape s1 W (A.g h) z1)
    cases hL3 : lexP J with
    | error ac3 =>
      obtain ⟨a3, c3⟩ := ac3
      have hc30 := lexP_code hL3
      have hc3 : (c3 != 0) = true := by simpa using hc30
      have H3 := hide (fun W (h : w.grownBy W none) => plex_err J W (A.g h) hJm hL3)
      clear A z0 z1 hL hL3 hc0 hc30
      go_enter Tryd.func7, Tryd.ntmps7
      go_wp2_with (first | (go_at_call 9; have := G2; refine (H3.out _ G2.out).mono ?_; rintro e w3 ⟨rfl, hg⟩; have G3 := hide (grown_trans G2.out hg); clear hg) | (go_at_call 9; have := G1; refine (H2.out _ G1.out).mono ?_; rintro e w2 ⟨o2, n2, c2, a2, k2, rfl, hg⟩; have G2 := hide (grown_trans G1.out hg); clear hg) | (go_at_call 9; refine H1.out.mono ?_; rintro e w1 ⟨rfl, hg⟩; have G1 := hide hg; clear hg) | (go_at_call 8; refine (HW.out _ G3.out).mono ?_; rintro e wz ⟨rfl, hg⟩; have GZ := hide (grown_trans G3.out hg); clear hg))
      go_ret
      exact ⟨rfl, GZ.out⟩
    | ok ts3 =>
      have hc90 : c = 90 := by
        rcases Decidable.em (c = 90) with h | h
        · exact h
        · have := join_first_err (t := s1) hsum hL h
          rw [HJ.out, hL3] at this
          cases this
      subst hc90
      have H3 := hide (fun W (h : w.grownBy W none) => plex_ok J W (A.g h) hJm hL3)
      clear A z0 z1 hL hL3 hc0 hc1
      go_enter Tryd.func7, Tryd.ntmps7
      go_wp2_with (first
        | (go_at_call 9; have := G2; refine (H3.out _ G2.out).mono ?_; rintro e w3 ⟨o3, c3, rfl, _, hg⟩; have G3 := hide (grown_trans G2.out hg); clear hg)
        | (go_at_call 9; have := G1; refine (H2.out _ G1.out).mono ?_; rintro e w2 ⟨o2, n2, c2, a2, k2, rfl, hg⟩; have G2 := hide (grown_trans G1.out hg); clear hg)
        | (go_at_call 9; refine H1.out.mono ?_; rintro e w1 ⟨rfl, hg⟩; have G1 := hide hg; clear hg)
        | (go_at_call 8; refine (HW.out _ G3.out).mono ?_; rintro e wz ⟨rfl, hg⟩; have GZ := hide (grown_trans G3.out hg); clear hg))
      go_ret
      exact ⟨rfl, GZ.out⟩
  | ok ts =>
    have H1 := hide (plex_ok s0 w A z0 hL)
    cases hL2 : lexP s1 with
    | error ac =>
      obtain ⟨a, c⟩ := ac
      have hc0 := lexP_code hL2
      have hc1 : (c != 0) = true := by simpa using hc0
      have hj := join_second hsum hL hL2
      rw [HJ.out] at hj
      have H2 := hide (fun W (h : w.grownBy W none) => plex_err s1 W (A.g h) z1 hL2)
      have H3 := hide (fun W (h : w.grownBy W none) => plex_err J W (A.g h) hJm hj)
      have hpl := lexV_place s1.length s1 0 a c (Nat.le_refl _) (by rw [← lexP_few (by omega)]; exact hL2)
      obtain ⟨pl0, pl1⟩ := hpl
      have ea : a + ((s0.length + 1 : Nat) : Int) = a + s0.length + 1 := by omega
      rw [ea] at H3
      have a0' : 0 ≤ a := by omega
      have a1' : a ≤ 4000 := by omega
      clear A z0 z1 hL hL2 hc0 hj ea pl0 pl1
      go_enter Tryd.func7, Tryd.ntmps7
      go_wp2_with (first
        | (go_at_call 9; have := G2; refine (H3.out _ G2.out).mono ?_; rintro e w3 ⟨rfl, hg⟩; have G3 := hide (grown_trans G2.out hg); clear hg)
        | (go_at_call 9; have := G1; refine (H2.out _ G1.out).mono ?_; rintro e w2 ⟨rfl, hg⟩; have G2 := hide (grown_trans G1.out hg); clear hg)
        | (go_at_call 9; refine H1.out.mono ?_; rintro e w1 ⟨o1, c1, rfl, _, hg⟩; have G1 := hide hg; clear hg)
        | (go_at_call 8; refine (HW.out _ G3.out).mono ?_; rintro e wz ⟨rfl, hg⟩; have GZ := hide (grown_trans G3.out hg); clear hg))
      go_ret
      exact ⟨rfl, GZ.out⟩
    | ok us =>
      have hj := join_both hsum hL hL2
      rw [HJ.out] at hj
      have H2 := hide (fun W (h : w.grownBy W none) => plex_ok s1 W (A.g h) z1 hL2)
      have H3 := hide (fun W (h : w.grownBy W none) => plex_ok J W (A.g h) hJm hj)
      obtain ⟨L, hLe⟩ : ∃ L : Int, ((s0.length + 1 : Nat) : Int) = L := ⟨_, rfl⟩
      have hL1 : (s0.length : Int) + 1 = L := by omega
      rw [hLe] at H3
      obtain ⟨all, hall⟩ : ∃ all, ts ++ us.map (shT L) = all := ⟨_, rfl⟩
      rw [hall] at H3
      have HAll := hide hall
      have htl := (lexP_len hL).1
      have hul := (lexP_len hL2).1
      have HPl := hide (fun (i : Nat) (x : Tk) (h : us[i]? = some x) => lexP_at hL2 h)
      have hal : all.length ≤ 40000 := by rw [← hall]; simp; omega
      have hul' : (us.length : Int) ≤ 16385 := by omega
      have L0 : 0 ≤ L := by omega
      have L1 : L ≤ 4001 := by omega
      have hs3 := sameL_refl true all
      clear A z0 z1 hL hL2 hj hLe hall
      go_enter Tryd.func7, Tryd.ntmps7
      go_wp2_with (first
        | (go_at_call 9; have := G2; refine (H3.out _ G2.out).mono ?_; rintro e w3 ⟨o3, c3, rfl, ho3, hg⟩; have G3 := hide (grown_trans G2.out hg); have O1c := hide (O1b.out.kept hg); have BS := hide (show Besd w3 o2 o3 us all (Value.slice o1 ts.length c1).ownBlock from ⟨(O2b.out.kept hg).at', ho3.at', (ap_start O1a.out O2b.out ho3 hg2.out).1, (ap_start O1a.out O2b.out ho3 hg2.out).2, fun a e => Nat.lt_of_lt_of_le (O2b.out.lo a e).2 hg.size, fun a e => (ho3.lo a e).2⟩); clear hg ho3)
        | (go_at_call 9; have := G1; refine (H2.out _ G1.out).mono ?_; rintro e w2 ⟨o2, c2, rfl, ho2, hg⟩; have G2 := hide (grown_trans G1.out hg); have hg2 := hide hg; have O1b := hide (O1a.out.kept hg); have O2b := hide ho2; clear hg ho2)
        | (go_at_call 9; refine H1.out.mono ?_; rintro e w1 ⟨o1, c1, rfl, ho1, hg⟩; have G1 := hide hg; have O1a := hide ho1; clear hg ho1))
      go_loopw [5, 14, 15] (fun lv iv xv W => ∃ (v : Value) (i : Nat) (x : Value), i ≤ us.length ∧ lv = v ∧ iv = .int .i64 i ∧ xv = x ∧ Hid (W.ownsRow w.heap.size 37 4 v (joD ts us L i).length (tkL (joD ts us L i))) ∧ Hid (Besd W o2 o3 us all v.ownBlock) ∧ Hid (w.grownBy W none)) (fun _ iv _ _ => us.length - (intOf iv).toNat)
      case atStart =>
        refine ⟨_, 0, _, Nat.zero_le _, rfl, rfl, rfl, ?_, BS, G3⟩
        have e : joD ts us L 0 = ts := by simp [joD]
        rw [e]
        exact hide O1c.out.row
      case round =>
        obtain ⟨v, i, xv, hi, rfl, rfl, rfl, HO, HB, HG⟩ := hrel
        obtain ⟨da, dc, hv⟩ := own_shape4 HO.out
        have hjl := joD_len ts us L i
        obtain ⟨D, hD⟩ : ∃ D, joD ts us L i = D := ⟨_, rfl⟩
        rw [hD] at HO hv hjl
        subst hv
        have HD := hide hD
        clear hD
        by_cases hlt : i < us.length
        · have k1 : (i : Int) < us.length := by omega
          obtain ⟨A1, rfl⟩ : ∃ ad, o2 = some ad := by
            cases o2 with
            | none => have := HB.out.t2.nil' rfl; omega
            | some ad => exact ⟨ad, rfl⟩
          obtain ⟨P, hP⟩ : ∃ P, A1.add (i * 4) = P := ⟨_, rfl⟩
          have t1 := HB.out.t2.at' A1 rfl i hlt
          rw [hP] at t1
          obtain ⟨x, hx⟩ : ∃ x, us[i] = x := ⟨_, rfl⟩
          rw [hx] at t1
          have hxi : us[i]? = some x := by rw [List.getElem?_eq_getElem hlt, hx]
          have hpa := HPl.out i x hxi
          have HJn := hide (joD_next ts us L hxi)
          rw [HD.out] at HJn
          obtain ⟨x0, x1, x2, x3⟩ := four_of' t1
          obtain ⟨p0, p1⟩ := hpa
          have q1 : x.a ≤ 4000 := by omega
          have hxL : x.a + ((s0.length : Int) + 1) = x.a + L := by rw [hL1]
          have pb := block_lt_of_cell x0
          clear t1 hx hxi
          go_wp2_with (at_builtin; refine wp_appU rfl _ _ rfl w.heap.size (.slice da D.length dc) D rfl ((HO.out.alloc _).alloc _) (wr.heap.size + 1) (shT L x) rfl (cell_fourS wr (shT L x)) (by omega) (by have := HG.out.size; simp; omega) ?_; intro d1 n1 p1 w3 h1 h2 h3 h4; have O3 := hide h1; have G4 := hide (grown_row HG.out HO.out h3); have HN1 := hide h2; have B3 := hide (HB.out.next h3 h4); clear h1 h2 h3 h4)
          go_roundw
          case rel => exact ⟨_, i + 1, _, by omega, rfl, by go_num, rfl, by rw [HJn.out]; exact O3, B3, G4⟩
          case measure => simp [intOf]; omega
        · obtain rfl : i = us.length := by omega
          have hDa : D = all := by rw [← HD.out, ← HAll.out, joD, List.take_length]
          subst hDa
          have T1 := hide (own_tks HO.out rfl)
          go_wp2_with (first
            | (go_at_call 11; refine (same_at _ o3 da c3 dc D D true (by omega) (by omega) HB.out.t3 T1.out).mono ?_; rintro e w4 ⟨rfl, hg⟩; have G5 := hide (grown_trans HG.out hg); clear hg)
            | (go_at_call 8; refine (HW.out _ G5.out).mono ?_; rintro e wz ⟨rfl, hg⟩; have GZ := hide (grown_trans G5.out hg); clear hg))
          go_ret
          exact ⟨rfl, GZ.out⟩
end Go.Proofs.YthnkkcamfcmhmaaDoor.Lx
