/-
  TokenMost, walked.
-/
import Derived.Test.YthnkkcamfcmhmaaDoorTkwk
namespace Go.Proofs.YthnkkcamfcmhmaaDoor.Lx
open Go.RowKit Go.Proofs.YthnkkcamfcmhmaaDoor.Tx
set_option linter.unusedVariables false
set_option linter.unusedSimpArgs false
set_option maxRecDepth 100000

def pls (m : Nat) : List UInt8 := List.replicate m 43
theorem pls_snoc (m : Nat) : pls m ++ [43] = pls (m + 1) := by rw [pls, pls, List.replicate_succ']
theorem pls_len (m : Nat) : (pls m).length = m := by simp [pls]
set_option maxHeartbeats 8000000 in
theorem wmost_walk (w : World) (A : Gt w) (a0 : Int) (w0 : (Lit.int .i64 a0).wf = true) (s1 : List UInt8) (z1 : s1.length ≤ maxLen) :
    Calls Tryd.prog 5 #[.int .i64 a0, .string (bs s1)] w fun e w' => e = .returned (.bool true) ∧ w.grownBy w' none := by
  have hsz := bs_size s1
  have HW := hide (fun W (h : w.grownBy W none) => wakes_at W (A.g h))
  have z1' : (s1.length : Int) ≤ 9223372036854775807 := by unfold maxLen at z1; omega
  by_cases hn : a0 < 0
  · clear A z1 w0
    go_enter Tryd.func5, Tryd.ntmps5
    go_wp2_with (go_at_call 8; refine (HW.out _ (g_refl _)).mono ?_; rintro e w1 ⟨rfl, hg⟩; have G1 := hide hg; clear hg)
    go_ret
    exact ⟨rfl, G1.out⟩
  by_cases hn2 : 6010 < a0
  · clear A z1 w0
    go_enter Tryd.func5, Tryd.ntmps5
    go_wp2_with (go_at_call 8; refine (HW.out _ (g_refl _)).mono ?_; rintro e w1 ⟨rfl, hg⟩; have G1 := hide hg; clear hg)
    go_ret
    exact ⟨rfl, G1.out⟩
  by_cases hn3 : 3000 < s1.length
  · have k3 : (3000 : Int) < s1.length := by omega
    clear A z1 w0
    go_enter Tryd.func5, Tryd.ntmps5
    go_wp2_with (go_at_call 8; refine (HW.out _ (g_refl _)).mono ?_; rintro e w1 ⟨rfl, hg⟩; have G1 := hide hg; clear hg)
    go_ret
    exact ⟨rfl, G1.out⟩
  obtain ⟨m, rfl⟩ := Int.eq_ofNat_of_zero_le (show 0 ≤ a0 by omega)
  have k3 : ¬ (3000 : Int) < s1.length := by omega
  have hm : m ≤ 6010 := by omega
  have km : (m : Int) ≤ 6010 := by omega
  obtain ⟨i0, hi, hz0, hz1, hz2⟩ := info_parts info_u8
  obtain ⟨S, hS⟩ : ∃ S, pls m ++ s1 = S := ⟨_, rfl⟩
  have hSl : S.length = m + s1.length := by rw [← hS, List.length_append, pls_len]
  have hSm : S.length ≤ maxLen := by unfold maxLen; omega
  have hadd : ∀ W : World, (Op.stringOp .add (bs (pls m)) (bs s1)).run Tryd.prog W = .ok (.string (bs S)) W := fun W => by
    rw [run_string_add_sum W _ _ (by rw [bs_size, bs_size, pls_len]; omega), bs_append, hS]
  have HPl := hide (pls_len m)
  have HP0 := hide hn
  clear hn hn2 hn3 w0 hS
  cases hL : lexP S with
  | error ac =>
    obtain ⟨a, c⟩ := ac
    have H1 := hide (fun W (h : w.grownBy W none) => plex_err S W (A.g h) hSm hL)
    have H2 := hide (fun W => rlex_err S W hSm hL)
    have HS := hide (fun W => same_at W none none 0 0 [] [] true (by simp) (by simp) ⟨fun a e => (by cases e), fun _ => rfl⟩ ⟨fun a e => (by cases e), fun _ => rfl⟩)
    clear A z1 hL
    go_enter Tryd.func5, Tryd.ntmps5
    go_wp2_with (at_make; refine wpList_make_own _ rfl _ _ _ rfl w.heap.size 5 i0 (.int .u8 0) 1 Tryd.underlying34 hi hz0 hz1 .i64 .i64 _ m rfl rfl rfl ?b2 ?b3 ?b4 ?_)
    case b2 => first | omega | (rw [hz2]; omega)
    case b3 => unfold maxLen; omega
    intro wM hown hgM
    have HO0 := hide hown
    have HG0 := hide hgM
    clear hown hgM
    go_wp2
    go_loopw [5, 6] (fun bv iv W => ∃ (v : Value) (i : Nat), i ≤ m ∧ bv = v ∧ iv = .int .i64 i ∧ Hid (W.ownsRow w.heap.size 5 1 v (pls i).length ((pls i).map b8)) ∧ Hid (w.grownBy W none)) (fun _ iv _ => m - (intOf iv).toNat)
    case atStart => exact ⟨_, 0, Nat.zero_le _, rfl, rfl, HO0, HG0⟩
    case round =>
      obtain ⟨v, i, hi', rfl, rfl, HO, HG⟩ := hrel
      have HPi := hide (pls_len i)
      obtain ⟨da, dc, hv⟩ := own_shape1 HO.out
      rw [pls_len] at hv
      subst hv
      by_cases hlt : i < m
      · have j1 : (i : Int) < m := by omega
        go_wp2_with (at_builtin; refine wp_app8 rfl _ _ rfl w.heap.size (.slice da i dc) (pls i) rfl (HO.out.alloc _) _ 43 rfl (cell_one _ (b8 43) _) (by rw [pls_len]; omega) (by have := HG.out.size; simp; omega) ?_; intro d2 n2 p2 w2 h1 h3; have O2 := hide h1; have G2 := hide ((grown_trans HG.out (alloc_g _ _)).andThen h3 (fun j hj => .inl (HO.out.lt j hj).1)); clear h1 h3)
        go_roundw
        case rel => exact ⟨_, i + 1, by omega, rfl, by go_num, by rw [← pls_snoc]; exact O2, G2⟩
        case measure => simp [intOf]; omega
      · obtain rfl : i = m := by omega
        have hcv := conv_own HO.out
        clear HO0 HG0
        go_wp2_with (first
          | (go_at_call 9; refine (H1.out _ HG.out).mono ?_; rintro e w1 ⟨rfl, hg⟩; have G1 := hide (grown_trans HG.out hg); clear hg)
          | (go_at_call 10; refine (H2.out _).mono ?_; rintro e w2 ⟨rfl, hg⟩; have G2 := hide (grown_trans G1.out hg); clear hg)
          | (go_at_call 11; refine (HS.out _).mono ?_; rintro e w3 ⟨rfl, hg⟩; have G3 := hide (grown_trans G2.out hg); have hs3 : sameL true [] [] = true := rfl; clear hg)
          | (go_at_call 8; refine (HW.out _ G3.out).mono ?_; rintro e w4 ⟨rfl, hg⟩; have G4 := hide (grown_trans G3.out hg); clear hg))
        go_ret
        exact ⟨rfl, G4.out⟩
  | ok ts =>
    have hl := lexP_len hL
    have H1 := hide (fun W (h : w.grownBy W none) => plex_ok S W (A.g h) hSm hL)
    have H2 := hide (fun W => rlex_ok S W hSm hL)
    have hs3 := sameL_refl true ts
    have HLn := hide hl
    clear A z1 hL hl
    go_enter Tryd.func5, Tryd.ntmps5
    go_wp2_with (at_make; refine wpList_make_own _ rfl _ _ _ rfl w.heap.size 5 i0 (.int .u8 0) 1 Tryd.underlying34 hi hz0 hz1 .i64 .i64 _ m rfl rfl rfl ?b2 ?b3 ?b4 ?_)
    case b2 => first | omega | (rw [hz2]; omega)
    case b3 => unfold maxLen; omega
    intro wM hown hgM
    have HO0 := hide hown
    have HG0 := hide hgM
    clear hown hgM
    go_wp2
    go_loopw [5, 6] (fun bv iv W => ∃ (v : Value) (i : Nat), i ≤ m ∧ bv = v ∧ iv = .int .i64 i ∧ Hid (W.ownsRow w.heap.size 5 1 v (pls i).length ((pls i).map b8)) ∧ Hid (w.grownBy W none)) (fun _ iv _ => m - (intOf iv).toNat)
    case atStart => exact ⟨_, 0, Nat.zero_le _, rfl, rfl, HO0, HG0⟩
    case round =>
      obtain ⟨v, i, hi', rfl, rfl, HO, HG⟩ := hrel
      obtain ⟨da, dc, hv⟩ := own_shape1 HO.out
      rw [pls_len] at hv
      subst hv
      by_cases hlt : i < m
      · have j1 : (i : Int) < m := by omega
        go_wp2_with (at_builtin; refine wp_app8 rfl _ _ rfl w.heap.size (.slice da i dc) (pls i) rfl (HO.out.alloc _) _ 43 rfl (cell_one _ (b8 43) _) (by rw [pls_len]; omega) (by have := HG.out.size; simp; omega) ?_; intro d2 n2 p2 w2 h1 h3; have O2 := hide h1; have G2 := hide ((grown_trans HG.out (alloc_g _ _)).andThen h3 (fun j hj => .inl (HO.out.lt j hj).1)); clear h1 h3)
        go_roundw
        case rel => exact ⟨_, i + 1, by omega, rfl, by go_num, by rw [← pls_snoc]; exact O2, G2⟩
        case measure => simp [intOf]; omega
      · obtain rfl : i = m := by omega
        have hcv := conv_own HO.out
        clear HO0 HG0
        go_wp2_with (first
          | (go_at_call 9; refine (H1.out _ HG.out).mono ?_; rintro e w1 ⟨o1, c1, rfl, ho, hg⟩; have O1 := hide ho; have G1 := hide (grown_trans HG.out hg); clear hg ho)
          | (go_at_call 10; refine (H2.out _).mono ?_; rintro e w2 ⟨o2, c2, rfl, ho, hg⟩; have T1 := hide (O1.out.at'.kept hg); have T2 := hide ho.at'; have G2 := hide (grown_trans G1.out hg); clear hg ho)
          | (go_at_call 11; refine (same_at _ o1 o2 c1 c2 ts ts true (by have := HLn.out; omega) (by have := HLn.out; omega) T1.out T2.out).mono ?_; rintro e w3 ⟨rfl, hg⟩; have G3 := hide (grown_trans G2.out hg); clear hg)
          | (go_at_call 8; refine (HW.out _ G3.out).mono ?_; rintro e w4 ⟨rfl, hg⟩; have G4 := hide (grown_trans G3.out hg); clear hg))
        go_ret
        exact ⟨rfl, G4.out⟩
end Go.Proofs.YthnkkcamfcmhmaaDoor.Lx
