/-
  TokenBack, walked.
-/
import Derived.Test.YthnkkcamfcmhmaaDoorTkcp
import Derived.Test.YthnkkcamfcmhmaaDoorTkwk
import Derived.Test.YthnkkcamfcmhmaaDoorPk11
namespace Go.Proofs.YthnkkcamfcmhmaaDoor.Lx
open Go.RowKit Go.Proofs.YthnkkcamfcmhmaaDoor.Tx
set_option linter.unusedVariables false
set_option linter.unusedSimpArgs false
set_option maxRecDepth 100000

set_option maxHeartbeats 8000000 in
theorem wback_walk (w : World) (A : Gt w) (o0 : Option Addr) (c0 : Nat) (T0 : List Tk) (S0 : TkS w o0 T0) (K0 : ∀ t ∈ T0, t.ok) (m0 : T0.length ≤ maxLen) (N0 : o0 = none → c0 = 0) :
    Calls Tryd.prog 4 #[.slice o0 T0.length c0] w fun e w' => e = .returned (.bool true) ∧ w.grownBy w' none := by
  have HW := hide (fun W (h : w.grownBy W none) => wakes_at W (A.g h))
  have HG0 := hide (g_refl w)
  have HLg := hide (large_at w o0 c0 T0 (by unfold maxLen at m0; omega) (fun t ht => by have := (K0 t ht).2.2.2; unfold maxLen at this; omega) S0)
  have b0 : (⟨#[]⟩ : ByteArray) = bs [] := rfl
  cases hlg : largeB T0 with
  | true =>
    rw [hlg] at HLg
    clear A m0 hlg K0 S0
    go_enter Tryd.func4, Tryd.ntmps4
    go_wp2_with (first
      | (go_at_call 12; refine HLg.out.mono ?_; rintro e w' ⟨rfl, hw⟩; replace hw := hw.symm; subst hw)
      | (go_at_call 8; refine (HW.out _ HG0.out).mono ?_; rintro e wz ⟨rfl, hg⟩; have GZ := hide (grown_trans HG0.out hg); clear hg))
    go_ret
    exact ⟨rfl, GZ.out⟩
  | false =>
    rw [hlg] at HLg
    obtain ⟨n7, t2⟩ := large_no hlg
    have HTx := hide (fun W (h : w.grownBy W none) d c (hs : TkS W d T0) => ptext_at W (A.g h) d c T0 (by omega) K0 (fun t ht => by have := t2 t ht; omega) hs)
    have H0 := hide S0
    have HAw := hide A
    clear A m0 hlg K0 S0 t2
    obtain ⟨X, hX⟩ : ∃ X, (textT T0).1 = X := ⟨_, rfl⟩
    obtain ⟨E, hE⟩ : ∃ E, (textT T0).2 = E := ⟨_, rfl⟩
    rw [hX, hE] at HTx
    by_cases hE0 : E = 0
    · subst hE0
      obtain ⟨t1, t2, t3, t4⟩ := textT_ok hE
      rw [hX] at t1
      obtain ⟨us, hus, hul, hsm⟩ := lexP_back t2 t3 t4
      rw [← t1] at hus t4
      have HL := hide (fun W (h : w.grownBy W none) => plex_ok X W (HAw.out.g h) (by unfold maxLen; omega) hus)
      have HUl := hide (show us.length ≤ 1000000 by omega)
      clear hus hul t1 t3 t4 hX hE
      go_enter Tryd.func4, Tryd.ntmps4
      go_wp2_with (first
        | (go_at_call 12; refine HLg.out.mono ?_; rintro e w' ⟨rfl, hw⟩; replace hw := hw.symm; subst hw)
        | (at_builtin; refine wp_copyT rfl _ _ rfl w.heap.size rfl (heap_alloc_new _ _) o0 T0.length c0 rfl T0 (H0.out.kept (alloc_g _ _)) rfl N0 (by omega) w.heap.size (Nat.le_refl _) ?_; intro d c' w1 h1 h2; have O1 := hide h1; have G1 := hide (grown_own (alloc_g _ _) (Nat.le_refl _) h2); clear h1 h2)
        | (go_at_call 13; refine (HTx.out _ G1.out d c' (own_tks O1.out rfl)).mono ?_; rintro e w2 ⟨rfl, hg⟩; have G2 := hide (grown_trans G1.out hg); clear hg)
        | (go_at_call 9; refine (HL.out _ G2.out).mono ?_; rintro e w3 ⟨o3, c3, rfl, ho, hg⟩; have T3 := hide ho.at'; have G3 := hide (grown_trans G2.out hg); clear hg ho)
        | (go_at_call 11; refine (same_at _ o0 o3 c0 c3 T0 us false (by omega) HUl.out (H0.out.kept G3.out) T3.out).mono ?_; rintro e w4 ⟨rfl, hg⟩; have G4 := hide (grown_trans G3.out hg); clear hg)
        | (go_at_call 8; refine (HW.out _ G4.out).mono ?_; rintro e wz ⟨rfl, hg⟩; have GZ := hide (grown_trans G4.out hg); clear hg))
      go_ret
      exact ⟨rfl, GZ.out⟩
    · have hx0 := textT_err (ts := T0) (by rw [hE]; exact hE0)
      rw [hX] at hx0
      subst hx0
      have e0 : (E != 0) = true := by simpa using hE0
      clear hX hE hE0
      go_enter Tryd.func4, Tryd.ntmps4
      go_wp2_with (first
        | (go_at_call 12; refine HLg.out.mono ?_; rintro e w' ⟨rfl, hw⟩; replace hw := hw.symm; subst hw)
        | (at_builtin; refine wp_copyT rfl _ _ rfl w.heap.size rfl (heap_alloc_new _ _) o0 T0.length c0 rfl T0 (H0.out.kept (alloc_g _ _)) rfl N0 (by omega) w.heap.size (Nat.le_refl _) ?_; intro d c' w1 h1 h2; have O1 := hide h1; have G1 := hide (grown_own (alloc_g _ _) (Nat.le_refl _) h2); clear h1 h2)
        | (go_at_call 13; refine (HTx.out _ G1.out d c' (own_tks O1.out rfl)).mono ?_; rintro e w2 ⟨rfl, hg⟩; have G2 := hide (grown_trans G1.out hg); clear hg)
        | (go_at_call 8; refine (HW.out _ G2.out).mono ?_; rintro e wz ⟨rfl, hg⟩; have GZ := hide (grown_trans G2.out hg); clear hg))
      go_ret
      exact ⟨rfl, GZ.out⟩
end Go.Proofs.YthnkkcamfcmhmaaDoor.Lx
