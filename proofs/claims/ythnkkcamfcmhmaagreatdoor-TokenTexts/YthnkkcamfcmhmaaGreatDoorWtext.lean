/-
  TokenTexts, walked.
-/
import Derived.Test.YthnkkcamfcmhmaaGreatDoorTkcp
import Derived.Test.YthnkkcamfcmhmaaGreatDoorTkwk
import Derived.Test.YthnkkcamfcmhmaaGreatDoorPk11
namespace Go.Proofs.YthnkkcamfcmhmaaGreatDoor.Lx
open Go.RowKit Go.Proofs.YthnkkcamfcmhmaaGreatDoor.Tx
set_option linter.unusedVariables false
set_option linter.unusedSimpArgs false
set_option maxRecDepth 100000

set_option maxHeartbeats 8000000 in
theorem wtext_walk (w : World) (A : Gt w) (o0 : Option Addr) (c0 : Nat) (T0 : List Tk) (S0 : TkS w o0 T0) (K0 : ∀ t ∈ T0, t.ok) (m0 : T0.length ≤ maxLen) (N0 : o0 = none → c0 = 0) :
    Calls Tryz.prog 3 #[.slice o0 T0.length c0] w fun e w' => e = .returned (.bool true) ∧ w.grownBy w' none := by
  have HW := hide (fun W (h : w.grownBy W none) => wakes_at W (A.g h))
  have HG0 := hide (g_refl w)
  have HLg := hide (large_at w o0 c0 T0 (by unfold maxLen at m0; omega) (fun t ht => by have := (K0 t ht).2.2.2; unfold maxLen at this; omega) S0)
  cases hlg : largeB T0 with
  | true =>
    rw [hlg] at HLg
    clear A m0 hlg K0 S0
    go_enter Tryz.func3, Tryz.ntmps3
    go_wp2_with (first
      | (go_at_call 4; refine HLg.out.mono ?_; rintro e w' ⟨rfl, hw⟩; replace hw := hw.symm; subst hw)
      | (go_at_call 5; refine (HW.out _ HG0.out).mono ?_; rintro e wz ⟨rfl, hg⟩; have GZ := hide (grown_trans HG0.out hg); clear hg))
    go_ret
    exact ⟨rfl, GZ.out⟩
  | false =>
    rw [hlg] at HLg
    obtain ⟨n7, t2⟩ := large_no hlg
    have HTx := hide (fun W (h : w.grownBy W none) d c (hs : TkS W d T0) => ptext_at W (A.g h) d c T0 (by omega) K0 (fun t ht => by have := t2 t ht; omega) hs)
    have HRx := hide (fun W (hs : TkS W o0 T0) => text_at W o0 c0 T0 (by omega) (fun t ht => by have := t2 t ht; omega) hs)
    have H0 := hide S0
    clear A m0 hlg K0 S0 t2
    obtain ⟨X, hX⟩ : ∃ X, (textT T0).1 = X := ⟨_, rfl⟩
    obtain ⟨E, hE⟩ : ∃ E, (textT T0).2 = E := ⟨_, rfl⟩
    rw [hX, hE] at HTx HRx
    have hs3 := sameL_refl true T0
    have hq := bs_eqB X X
    rw [show (X == X) = true by simp] at hq
    clear hX hE
    go_enter Tryz.func3, Tryz.ntmps3
    go_wp2_with (first
      | (go_at_call 4; refine HLg.out.mono ?_; rintro e w' ⟨rfl, hw⟩; replace hw := hw.symm; subst hw)
      | (at_builtin; refine wp_copyT rfl _ _ rfl w.heap.size rfl (heap_alloc_new _ _) o0 T0.length c0 rfl T0 (H0.out.kept (alloc_g _ _)) rfl N0 (by omega) w.heap.size (Nat.le_refl _) ?_; intro d c' w1 h1 h2; have O1 := hide (own_tks h1 rfl); have G1 := hide (grown_own (alloc_g _ _) (Nat.le_refl _) h2); clear h1 h2)
      | (go_at_call 6; refine (HTx.out _ G1.out d c' O1.out).mono ?_; rintro e w2 ⟨rfl, hg⟩; have G2 := hide (grown_trans G1.out hg); have O2 := hide (O1.out.kept hg); clear hg)
      | (go_at_call 7; refine (HRx.out _ (H0.out.kept G2.out)).mono ?_; rintro e w3 ⟨rfl, hg⟩; have G3 := hide (grown_trans G2.out hg); have O3 := hide (O2.out.kept hg); clear hg)
      | (go_at_call 8; refine (same_at _ d o0 c' c0 T0 T0 true (by omega) (by omega) O3.out (H0.out.kept G3.out)).mono ?_; rintro e w4 ⟨rfl, hg⟩; have G4 := hide (grown_trans G3.out hg); clear hg)
      | (go_at_call 5; refine (HW.out _ G4.out).mono ?_; rintro e wz ⟨rfl, hg⟩; have GZ := hide (grown_trans G4.out hg); clear hg))
    go_ret
    exact ⟨rfl, GZ.out⟩
end Go.Proofs.YthnkkcamfcmhmaaGreatDoor.Lx
