/-
  For every text, the law StoreNames answers true: package store and the document agree on which texts are names of files, and just a name is taken by Put; no conditions.
-/
import Derived.Test.YtaekljpijnkjoaaRows
import Derived.Test.YtaekljpijnkjoaaStarg
import Derived.WalkKit
import Derived.ProofKit
import Derived.Below

namespace Go.Proofs.Ytaekljpijnkjoaa.storeNames
open Go.ChangeShapes Go.WideShapes Go.ChangeAt Go.RowKit Go.ChangeMaps Go.Proofs.Ytaekljpijnkjoaa.St Go.Proofs.Ytaekljpijnkjoaa.Tx
set_option linter.unusedVariables false
set_option maxRecDepth 100000

set_option maxHeartbeats 1000000 in

theorem walk (w : World) (s0 : List UInt8) (z0 : s0.length ≤ maxLen) :
    Calls Try.prog 3 #[.string (bs s0)] w fun e w' => e = .returned (.bool true) ∧ w.grownBy w' none := by
  have hz := bs_size s0
  have b2 : (⟨#[120]⟩ : ByteArray) = bs tX := rfl
  have hl : (s0.length : Int) ≤ 9223372036854775807 := by unfold maxLen at z0; omega
  have HZ := hide z0
  clear z0
  by_cases h5 : (5000 : Int) < s0.length
  · go_enter Try.func3, Try.ntmps3
    go_wp2_with (go_at_call 5; refine (wakes_any _).mono ?_; rintro e w4 ⟨rfl, hg⟩; have G4 := hide hg; clear hg)
    go_ret
    exact ⟨rfl, G4.out⟩
  · cases hn : nmB s0
    · have HE : Hid (errP s0 tX [] = 70) := hide (by rw [errP, if_pos hn])
      go_enter Try.func3, Try.ntmps3
      go_wp2_with (first | (go_at_call 6; refine (name_any s0 _ HZ.out).mono ?_; rintro e w' ⟨rfl, rfl⟩) | (go_at_call 7; refine (rname_any s0 _ HZ.out).mono ?_; rintro e w' ⟨rfl, rfl⟩) | (go_at_call 8; refine (new_any _).mono ?_; rintro e w1 ⟨rfl, hs, hg⟩; have H1 := hide hs; have G1 := hide hg; clear hs hg) | (go_at_call 9; refine (put_at H1.out s0 tX HZ.out (by decide) (by decide)).mono ?_; rw [HE.out]; rintro e w2 ⟨rfl, hg, hs⟩; have G2 := hide (grown_own G1.out (Nat.le_refl _) hg); clear hs hg H1 G1) | (go_at_call 5; refine (wakes_any _).mono ?_; rintro e w4 ⟨rfl, hg⟩; have G4 := hide hg; clear hg))
      go_ret
      exact ⟨rfl, grown_trans G2.out G4.out⟩
    · have HE : Hid (errP s0 tX [] = 0) := hide (put_first s0 tX hn (by decide)).1
      go_enter Try.func3, Try.ntmps3
      go_wp2_with (first | (go_at_call 6; refine (name_any s0 _ HZ.out).mono ?_; rintro e w' ⟨rfl, rfl⟩) | (go_at_call 7; refine (rname_any s0 _ HZ.out).mono ?_; rintro e w' ⟨rfl, rfl⟩) | (go_at_call 8; refine (new_any _).mono ?_; rintro e w1 ⟨rfl, hs, hg⟩; have H1 := hide hs; have G1 := hide hg; clear hs hg) | (go_at_call 9; refine (put_at H1.out s0 tX HZ.out (by decide) (by decide)).mono ?_; rw [HE.out]; rintro e w2 ⟨rfl, hg, hs⟩; have G2 := hide (grown_own G1.out (Nat.le_refl _) hg); clear hs hg H1 G1) | (go_at_call 5; refine (wakes_any _).mono ?_; rintro e w4 ⟨rfl, hg⟩; have G4 := hide hg; clear hg))
      go_ret
      exact ⟨rfl, grown_trans G2.out G4.out⟩

set_option maxRecDepth 100000 in
theorem lifted (os : Os) (started : os.Started) (H : Type) (enc : TypeId × Value → H) :
    ReturnsInHanded {} Try.checked os 3 .any (Rows.storeNamesSpec.pre6 enc Try.prog Try.f3 Rows.storeNamesRow.domain false) (Rows.storeNamesSpec.post enc Try.prog Try.f3 false true false false) := by
  refine returnsInHanded_of_change (C := Try.checked) own started (by kernel_rfl) Try.func3
    (ChangeSpec.witness6 (enc := enc) (C := Try.checked) false ⟨#[], #[.string ⟨#[]⟩], []⟩ 8 (by kernel_rfl) (by kernel_rfl) (by kernel_rfl) (by kernel_rfl)) ?_
  intro W base args ds gs before hval0 hW hcnd _
  have hval : ∀ (j : Nat) t v, Try.f3.params[j]? = some t → args[j]? = some v → Value.okWide Try.prog W .any base t v := hval0
  have hW' := hW
  obtain ⟨p, q, hA0, hV, rfl, hfz, hnd⟩ := hW
  have hA : DataW.TrodAll enc Try.prog W 0 (fun _ => true) true Try.f3.params.toList args.toList ds p := hA0
  rw [Try.params3] at hA hval
  obtain ⟨v0, vs0, d0, ds0, p0, q0, hargs, rfl, rfl, h0, r0⟩ := trodAll_cons hA
  obtain ⟨rfl, rfl, rfl⟩ := trodAll_nil r0
  obtain rfl : args = #[v0] := by cases args; simp_all
  obtain ⟨rfl, rfl⟩ := trodVars_none hV
  have k0 := h0
  have lt0 : ∀ x ∈ p0, x.block < W.heap.size := by obtain ⟨m, hm⟩ := k0; exact DataW.trod_lt m _ _ _ hm
  obtain ⟨s0, rfl, z0⟩ := open_text (hval 0 9 v0 rfl rfl) h0
  clear hA0 hval0
  refine (walk W s0 z0).mono fun e W' ⟨he, hg⟩ => ?_
  subst he
  have bel : Below W.heap.size W W' := ⟨hg.os, hg.tape, hg.output, hg.size, fun k hk => hg.block k hk (by simp)⟩
  exact ⟨_, rfl, _, _, _, [], _, [], hW', trodAll_mk1 (shut_bool Try.underlying4 _), (trodAll_cons_mk (Below.trod laidOut (by kernel_rfl) (of_decide_eq_true (by kernel_rfl)) k0 bel lt0) trodAll_mk0), rfl, bel.frame _, fun h => by cases h⟩

theorem proved : Rows.StoreNamesSaid :=
  OpenClaim.holds_of_wide 3 Try.f3 rfl rfl rfl rfl rfl rfl rfl ⟨rfl, rfl, rfl, rfl, rfl⟩ rfl rfl rfl rfl rfl (by kernel_rfl) Try.func3 (by kernel_rfl)
    (of_decide_eq_true (by kernel_rfl)) (by unfold Func.isWrapper; first | (rw [if_pos (by decide +kernel)]; kernel_rfl) | (rw [if_neg (by decide +kernel)]; exact ⟨rfl, rfl⟩))
    (fun os started H enc _ => lifted os started H enc)
end Go.Proofs.Ytaekljpijnkjoaa.storeNames

namespace Go.Proofs.Ytaekljpijnkjoaa
theorem storeNames_holds : Rows.StoreNamesSaid := storeNames.proved
#print axioms storeNames_holds
end Go.Proofs.Ytaekljpijnkjoaa
