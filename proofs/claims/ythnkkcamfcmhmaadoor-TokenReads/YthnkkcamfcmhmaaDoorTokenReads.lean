/-
  Whatever the text: TokenReads returns true, and its argument reads behind the call as it read before; no condition but what the card ties.
-/
import Derived.Test.YthnkkcamfcmhmaaDoorCards
import Derived.Test.YthnkkcamfcmhmaaDoorTie
import Derived.Test.YthnkkcamfcmhmaaDoorTkarg
import Derived.Test.YthnkkcamfcmhmaaDoorTklaid
import Derived.WalkKit
import Derived.ProofKit
import Derived.Below
import Derived.SevenTiedAt
import Derived.Test.YthnkkcamfcmhmaaDoorTkwk
namespace Go.Proofs.YthnkkcamfcmhmaaDoor.tokenReads
open Go.ChangeShapes Go.WideShapes Go.ChangeAt Go.RowKit Go.ChangeMaps Go.Proofs.YthnkkcamfcmhmaaDoor.Lx Go.Proofs.YthnkkcamfcmhmaaDoor.Tx
set_option linter.unusedVariables false
set_option linter.unusedSimpArgs false
set_option maxRecDepth 100000


theorem walk (w : World) (A : Gt w) (s0 : List UInt8) (z0 : s0.length ≤ maxLen) :
    Calls Tryd.prog 3 #[.string (bs s0)] w fun e w' => e = .returned (.bool true) ∧ w.grownBy w' none := by
  have hsz := bs_size s0
  have HW := hide (fun W (h : w.grownBy W none) => wakes_at W (A.g h))
  have z0' : (s0.length : Int) ≤ 9223372036854775807 := by unfold maxLen at z0; omega
  by_cases hbig : 20000 < s0.length
  · have j1 : (20000 : Int) < s0.length := by omega
    clear A z0
    go_enter Tryd.func3, Tryd.ntmps3
    go_wp2_with (go_at_call 8; refine (HW.out _ (g_refl _)).mono ?_; rintro e w1 ⟨rfl, hg⟩; have G1 := hide hg; clear hg)
    go_ret
    exact ⟨rfl, G1.out⟩
  have j1 : ¬ (20000 : Int) < s0.length := by omega
  cases hL : lexP s0 with
  | error ac =>
    obtain ⟨a, c⟩ := ac
    have H1 := hide (plex_err s0 w A z0 hL)
    have H2 := hide (fun W => rlex_err s0 W z0 hL)
    have HS := hide (fun W => same_at W none none 0 0 [] [] true (by simp) (by simp) ⟨fun a e => (by cases e), fun _ => rfl⟩ ⟨fun a e => (by cases e), fun _ => rfl⟩)
    clear A z0 hL
    go_enter Tryd.func3, Tryd.ntmps3
    go_wp2_with (first
      | (go_at_call 9; refine H1.out.mono ?_; rintro e w1 ⟨rfl, hg⟩; have G1 := hide hg; clear hg)
      | (go_at_call 10; refine (H2.out _).mono ?_; rintro e w2 ⟨rfl, hg⟩; have G2 := hide (grown_trans G1.out hg); clear hg)
      | (go_at_call 11; refine (HS.out _).mono ?_; rintro e w3 ⟨rfl, hg⟩; have G3 := hide (grown_trans G2.out hg); have hs3 : sameL true [] [] = true := rfl; clear hg)
      | (go_at_call 8; refine (HW.out _ G3.out).mono ?_; rintro e w4 ⟨rfl, hg⟩; have G4 := hide (grown_trans G3.out hg); clear hg))
    go_ret
    exact ⟨rfl, G4.out⟩
  | ok ts =>
    have hl := lexP_len hL
    have H1 := hide (plex_ok s0 w A z0 hL)
    have H2 := hide (fun W => rlex_ok s0 W z0 hL)
    have hs3 := sameL_refl true ts
    have HLn := hide hl
    clear A z0 hL hl
    go_enter Tryd.func3, Tryd.ntmps3
    go_wp2_with (first
      | (go_at_call 9; refine H1.out.mono ?_; rintro e w1 ⟨o1, c1, rfl, ho, hg⟩; have O1 := hide ho; have G1 := hide hg; clear hg ho)
      | (go_at_call 10; refine (H2.out _).mono ?_; rintro e w2 ⟨o2, c2, rfl, ho, hg⟩; have T1 := hide (O1.out.at'.kept hg); have T2 := hide ho.at'; have G2 := hide (grown_trans G1.out hg); clear hg ho)
      | (go_at_call 11; refine (same_at _ o1 o2 c1 c2 ts ts true (by have := HLn.out; omega) (by have := HLn.out; omega) T1.out T2.out).mono ?_; rintro e w3 ⟨rfl, hg⟩; have G3 := hide (grown_trans G2.out hg); clear hg)
      | (go_at_call 8; refine (HW.out _ G3.out).mono ?_; rintro e w4 ⟨rfl, hg⟩; have G4 := hide (grown_trans G3.out hg); clear hg))
    go_ret
    exact ⟨rfl, G4.out⟩

abbrev laidL := Rows.tokenReadsRow.laid
theorem sshape (os : Os) : (World.laidAll Tryd.prog os laidL).Shaped Tryd.prog := World.shaped_of_ZipB (by kernel_rfl) (by kernel_rfl)
theorem smet (os : Os) (args : Array Value) : laidMetH Tryd.prog laidL ((World.laidAll Tryd.prog os laidL).forCall (fun _ _ => 0) ⟨#[], args, []⟩).memory := by
  rw [MakeChecks.laidMetH_plain _ _ _ (by kernel_rfl)]
  exact laidMet_laidAll _ (by kernel_rfl) (by kernel_rfl)
def nmAt (k : Nat) : String := (laidL.map Prod.fst).getD k default
def debT : List Int := [0, 1, 56, 2, 57, 49, 28, 3, 61, 58, 42, 50, 38, 29, 17, 4, 62, 47, 59, 36, 45, 43, 51, 22, 53, 39, 33, 30, 24, 18, 12, 5, 63, 55, 48, 27, 60, 41, 37, 16, 46, 35, 44, 21, 52, 32, 23, 11, 54, 26, 40, 15, 34, 20, 31, 10, 25, 14, 19, 9, 13, 8, 7, 6]
theorem gt_laid {W : World} (h : laidMetH Tryd.prog laidL W) : Gt W := by
  rw [MakeChecks.laidMetH_plain _ _ _ (by kernel_rfl)] at h
  obtain ⟨ps, hl, _⟩ := h
  exact gt_of hl 7 6 2 3 1 (n1 := nmAt 7) (n5 := nmAt 1) (zs5 := debT) (by kernel_rfl) (by kernel_rfl) (by kernel_rfl) (by kernel_rfl) rfl (by kernel_rfl) (by kernel_rfl) (by kernel_rfl) (by kernel_rfl)
set_option maxRecDepth 100000 in
theorem lifted (os : Os) (started : os.Started) (H : Type) (enc : TypeId × Value → H) :
    ReturnsInHanded {} Tryd.checked os 3 .any (fun w args => (Rows.tokenReadsSpec.pre enc Tryd.prog Tryd.f3 [] false w args ∧ laidMetH Tryd.prog laidL w) ∧ sizedMet enc Tryd.prog Tryd.f3 (OpenSpec.ofChange Rows.tokenReadsSpec) false w args)
      (Rows.tokenReadsSpec.post enc Tryd.prog Tryd.f3 false true false false) := by
  refine handed_and_shaped (C := Tryd.checked) (X := fun w _ => laidMetH Tryd.prog laidL w) (fun _ _ _ hh h => h.of_heap hh) own started (by kernel_rfl) Tryd.func3
    (ChangeSpec.witness_shaped (enc := enc) (C := Tryd.checked) (os := os) (X := fun w _ => laidMetH Tryd.prog laidL w) false (World.laidAll Tryd.prog os laidL) #[.string ⟨#[]⟩] 8 (World.laidAll_os _ _ _) (sshape os) (by kernel_rfl) (by kernel_rfl) (by kernel_rfl) (smet os _)) ?_
  intro W base args ds gs before hval0 hW hL hsh
  have hval : ∀ (j : Nat) t v, Tryd.f3.params[j]? = some t → args[j]? = some v → Value.okWide Tryd.prog W .any base t v := hval0
  have hW' := hW
  obtain ⟨p, q, hA0, hV, rfl, hfz, hnd⟩ := hW
  have hA : DataW.TrodAll enc Tryd.prog W 0 (fun _ => true) true Tryd.f3.params.toList args.toList ds p := hA0
  rw [Tryd.params3] at hA hval
  obtain ⟨v0, vs0, d0, ds0, p0, q0, hargs, rfl, rfl, h0, r0⟩ := trodAll_cons hA
  obtain ⟨rfl, rfl, rfl⟩ := trodAll_nil r0
  obtain rfl : args = #[v0] := by cases args; simp_all
  obtain ⟨rfl, rfl⟩ := trodVars_none hV
  have k0 := h0
  have lt0 : ∀ x ∈ p0, x.block < W.heap.size := by obtain ⟨m, hm⟩ := k0; exact DataW.trod_lt m _ _ _ hm
  obtain ⟨s0, rfl, z0⟩ := open_text (hval 0 9 v0 rfl rfl) h0
  clear hA0 hval0
  have AW := gt_laid hL
  refine (walk W AW s0 z0).mono fun e W' ⟨he, hg⟩ => ?_
  subst he
  have bel : Below W.heap.size W W' := ⟨hg.os, hg.tape, hg.output, hg.size, fun k hk => hg.block k hk (by simp)⟩
  exact ⟨_, rfl, _, _, _, [], _, [], hW', trodAll_mk1 (shut_bool Tryd.underlying4 _), (trodAll_cons_mk (Below.trod laidOut (by kernel_rfl) (of_decide_eq_true (by kernel_rfl)) k0 bel lt0) trodAll_mk0), rfl, bel.frame _, fun h => by cases h⟩

theorem over : Rows.TokenReadsSaid :=
  OpenClaim.holds_of_wide 3 Tryd.f3 rfl rfl rfl rfl rfl rfl rfl ⟨rfl, rfl, rfl, rfl, rfl⟩ rfl rfl rfl rfl rfl (by kernel_rfl) Tryd.func3 (by kernel_rfl)
    (of_decide_eq_true (by kernel_rfl)) (by unfold Func.isWrapper; first | (rw [if_pos (by decide +kernel)]; kernel_rfl) | (rw [if_neg (by decide +kernel)]; exact ⟨rfl, rfl⟩))
    (fun os started H enc _ => lifted os started H enc)

theorem proved : Rows.TokenReadsCardSaid :=
  Claim7.holds_tied_plain_at .later [] [.data, .data, .data, .sentinel, .sentinel, .listed, .data, .data] true (true, "f932cb882a188dabbf7329d9c7a02e6f0c77711a882560f7fde944a53d548dda") true
    over (fun _ h => by cases h) (by kernel_rfl) (fun _ h => by cases h) tokenReads_row_tie rfl ⟨rfl, rfl⟩ (by kernel_rfl) rfl
    (fun g gn hf hfn => by
      obtain rfl : g = 3 := Option.some.inj (hf.symm.trans (by kernel_rfl))
      obtain rfl : gn = Tryd.f3 := (Option.some.inj (Tryd.func3.symm.trans hfn)).symm
      exact ⟨by kernel_rfl, fun j t ht => by
        rw [Tryd.params3] at ht
        have hm : t ∈ [9] := by simpa using Array.mem_of_getElem? ht
        have hall : ([9].all fun k => !Tryd.prog.wantsStandIn k) = true := by kernel_rfl
        exact (show Tryd.prog.wantsStandIn t = false by simpa using List.all_eq_true.1 hall t hm)⟩)
    (by kernel_rfl)
end Go.Proofs.YthnkkcamfcmhmaaDoor.tokenReads

namespace Go.Proofs.YthnkkcamfcmhmaaDoor
theorem tokenReads_holds : Rows.TokenReadsCardSaid := tokenReads.proved
#print axioms tokenReads_holds
end Go.Proofs.YthnkkcamfcmhmaaDoor
