/-
  For every word, Decode answers the instruction or the error that the document's own reading answers; no condition but that package risc's tables start as the program's text lays them (the card ties them to that text).
-/
import Derived.Test.YtnogmacfnlhnlaaDoorCards
import Derived.Test.YtnogmacfnlhnlaaDoorTie
import Derived.Test.YtnogmacfnlhnlaaDoorRargs
import Derived.SevenTiedAt
import Derived.Test.YtnogmacfnlhnlaaDoorRmath2
import Derived.Test.YtnogmacfnlhnlaaDoorRref3
import Derived.Test.YtnogmacfnlhnlaaDoorRwak
namespace Go.Proofs.YtnogmacfnlhnlaaDoor.riscDecodes
open Go.ChangeShapes Go.WideShapes Go.ChangeAt Go.RowKit Go.Joins Go.Proofs.YtnogmacfnlhnlaaDoor.Risc Go.Proofs.YtnogmacfnlhnlaaDoor.Bits Go.Proofs.YtnogmacfnlhnlaaDoor.Gw
set_option linter.unusedVariables false


set_option maxHeartbeats 2000000 in
set_option maxRecDepth 100000 in
theorem walk (n0 : Int) (w0 : (Lit.int .u32 n0).wf = true) (w : World) (L : Laid w) :
    Calls Tryd.prog 4 #[.int .u32 n0] w fun e w' => e = .returned (.bool true) ∧ Grown w w' := by
  have x := bounds_u32 w0
  have D := decode_any n0
  have R := rdecode_any n0
  rw [← dec_eq] at R
  have hgg := gr_gr
  cases hd : decB n0
  · rw [hd] at D R
    obtain ⟨z0, z1, z2, z3, z4, z5, z6, z7⟩ := new_facts 0 false false 0 0 0 0 0
    obtain ⟨y0, y1, y2, y3, y4, y5, y6, y7⟩ := old_facts 0 false false 0 0 0 0 0
    clear hd
    (go_enter Tryd.func4, Tryd.ntmps4; go_wp2_with (first | (go_at_call 14; refine (D _ L (by omega) (by omega)).mono ?_; rintro e w' ⟨rfl, p, rfl⟩) | (go_at_call 15; refine (R _ (by omega) (by omega)).mono ?_; rintro e w' ⟨rfl, p, rfl⟩) | (go_at_call 16; refine (same_any _ _ _ _ _ _ _ _ _).mono ?_; rintro e w' ⟨rfl, p, rfl⟩) | (go_at_call 13; refine (wakes_any _ (by with_reducible repeat' (first | exact L | apply Laid.gr | apply Laid.alloc))).mono ?_; rintro e w' ⟨rfl, p, rfl⟩)))
    go_ret
    refine ⟨rfl, G.grown ?_⟩
    with_reducible repeat' (first | exact G.refl _ | apply G.gr | apply G.alloc)
  · rw [hd] at D R
    clear hd
    revert D R
    rw [uIns]
    generalize uF n0 = f
    generalize uU n0 = u
    generalize uV n0 = v
    generalize uA n0 = a
    generalize uB n0 = b
    generalize uC n0 = c
    generalize uOp n0 = op
    generalize uIm n0 = im
    intro D R
    obtain ⟨z0, z1, z2, z3, z4, z5, z6, z7⟩ := new_facts f u v a b c op im
    obtain ⟨y0, y1, y2, y3, y4, y5, y6, y7⟩ := old_facts f u v a b c op im
    (go_enter Tryd.func4, Tryd.ntmps4; go_wp2_with (first | (go_at_call 14; refine (D _ L (by omega) (by omega)).mono ?_; rintro e w' ⟨rfl, p, rfl⟩) | (go_at_call 15; refine (R _ (by omega) (by omega)).mono ?_; rintro e w' ⟨rfl, p, rfl⟩) | (go_at_call 16; refine (same_any _ _ _ _ _ _ _ _ _).mono ?_; rintro e w' ⟨rfl, p, rfl⟩) | (go_at_call 13; refine (wakes_any _ (by with_reducible repeat' (first | exact L | apply Laid.gr | apply Laid.alloc))).mono ?_; rintro e w' ⟨rfl, p, rfl⟩)))
    go_ret
    refine ⟨rfl, G.grown ?_⟩
    with_reducible repeat' (first | exact G.refl _ | apply G.gr | apply G.alloc)

set_option maxRecDepth 100000 in
theorem lifted (os : Os) (started : os.Started) (H : Type) (enc : TypeId × Value → H) :
    ReturnsInHanded {} Tryd.checked os 4 .any (fun w args => (Rows.riscDecodesSpec.pre enc Tryd.prog Tryd.f4 [] false w args ∧ laidMetH Tryd.prog laid11 w) ∧ sizedMet enc Tryd.prog Tryd.f4 (OpenSpec.ofChange Rows.riscDecodesSpec) false w args)
      (Rows.riscDecodesSpec.post enc Tryd.prog Tryd.f4 false true false false) := by
  refine returnsInHanded_of_change_and (C := Tryd.checked) (X := fun w _ => laidMetH Tryd.prog laid11 w) (fun _ _ _ hh h => h.of_heap hh) own started (by kernel_rfl) Tryd.func4
    (ChangeSpec.witness_shaped (enc := enc) (C := Tryd.checked) (os := os) (X := fun w _ => laidMetH Tryd.prog laid11 w) false (World.doorLaid Tryd.prog 400 os) #[.int .u32 0] 8 rfl (World.shaped_of_RefB (by kernel_rfl) (by kernel_rfl)) (by kernel_rfl) (by kernel_rfl) (by kernel_rfl) (door_met os _)) ?_
  intro W base args ds gs before hval0 hW _ _ hL _
  have hval : ∀ (j : Nat) t v, Tryd.f4.params[j]? = some t → args[j]? = some v → Value.okWide Tryd.prog W .any base t v := hval0
  have hW' := hW
  obtain ⟨p, q, hA0, hV, rfl, hfz, hnd⟩ := hW
  have hA : DataW.TrodAll enc Tryd.prog W 0 (fun _ => true) true Tryd.f4.params.toList args.toList ds p := hA0
  rw [Tryd.params4] at hA hval
  obtain ⟨v0, d0, rfl, rfl, h0⟩ := trodAll_one hA
  obtain ⟨rfl, rfl⟩ := trodVars_none hV
  obtain ⟨n0, rfl, rfl, rfl, w0⟩ := open_int Tryd.underlying24 (hval 0 24 v0 rfl rfl) h0
  have LW : Laid W := of_laid hL
  clear hA0 hval0
  simp only [List.append_nil] at hW'
  refine (walk n0 w0 W LW).mono fun e W' ⟨he, hg⟩ => ?_
  subst he
  exact ⟨_, rfl, post_of_same (pa := []) (pv := []) hW' (fun _ _ _ => (trodAll_cons_mk (shut_bool Tryd.underlying4 _) trodAll_mk0)) (fun sp _ => (trodAll_cons_mk (shut_int Tryd.underlying24 w0) trodAll_mk0)) (fun _ _ => rfl) rfl
    (hg.frame _) hg.2.1 (ok_one (by kernel_rfl) rfl (okWide_bool_mk Tryd.underlying4 _))⟩

theorem over : Rows.RiscDecodesSaid :=
  OpenClaim.holds_of_wide 4 Tryd.f4 rfl rfl rfl rfl rfl rfl rfl ⟨rfl, rfl, rfl, rfl, rfl⟩ rfl rfl rfl rfl rfl (by kernel_rfl) Tryd.func4 (by kernel_rfl)
    (of_decide_eq_true (by kernel_rfl)) (by unfold Func.isWrapper; first | (rw [if_pos (by decide +kernel)]; kernel_rfl) | (rw [if_neg (by decide +kernel)]; exact ⟨rfl, rfl⟩))
    (fun os started H enc _ => lifted os started H enc)

theorem proved : Rows.RiscDecodesCardSaid :=
  Claim7.holds_tied_plain_at .later [] [.wider, .wider, .wider, .wider, .wider, .wider, .wider, .wider, .wider, .wider, .widerDeep] true (true, "b33bd3280ac425d1ec3ffb038d83b25e1c2b6a7dd2b2f06d4cebf8df8a113466") false
    over (fun _ h => by cases h) (by kernel_rfl) (fun _ h => by cases h) riscDecodes_row_tie rfl ⟨rfl, rfl⟩ (by kernel_rfl) rfl
    (fun g gn hf hfn => by
      obtain rfl : g = 4 := Option.some.inj (hf.symm.trans (by kernel_rfl))
      obtain rfl : gn = Tryd.f4 := (Option.some.inj (Tryd.func4.symm.trans hfn)).symm
      exact ⟨by kernel_rfl, fun j t ht => by
        rw [Tryd.params4] at ht
        have hm : t ∈ [24] := by simpa using Array.mem_of_getElem? ht
        have hall : ([24].all fun k => !Tryd.prog.wantsStandIn k) = true := by kernel_rfl
        exact (show Tryd.prog.wantsStandIn t = false by simpa using List.all_eq_true.1 hall t hm)⟩)
    (by kernel_rfl)
end Go.Proofs.YtnogmacfnlhnlaaDoor.riscDecodes

namespace Go.Proofs.YtnogmacfnlhnlaaDoor
theorem riscDecodes_holds : Rows.RiscDecodesCardSaid := riscDecodes.proved
#print axioms riscDecodes_holds
end Go.Proofs.YtnogmacfnlhnlaaDoor
