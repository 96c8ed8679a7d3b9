/-
  For every word that Decode reads, the upper two bits are the instruction's form, the next two its marks, the next four its register, and Good holds of it; where it reads none the instruction is the zero one; no condition but that package risc's tables start as the program's text lays them (the card ties them to that text).
-/
import Derived.Test.YtnogmacfnlhnlaaDoorCards
import Derived.Test.YtnogmacfnlhnlaaDoorTie
import Derived.Test.YtnogmacfnlhnlaaDoorRargs
import Derived.SevenTiedAt
import Derived.Test.YtnogmacfnlhnlaaDoorRmath2
import Derived.Test.YtnogmacfnlhnlaaDoorRwak
namespace Go.Proofs.YtnogmacfnlhnlaaDoor.riscForms
open Go.ChangeShapes Go.WideShapes Go.ChangeAt Go.RowKit Go.Joins Go.Proofs.YtnogmacfnlhnlaaDoor.Risc Go.Proofs.YtnogmacfnlhnlaaDoor.Bits Go.Proofs.YtnogmacfnlhnlaaDoor.Gw
set_option linter.unusedVariables false

theorem and1 (x : Int) (x0 : 0 ≤ x) (x1 : x < 4294967296) : Go.bits .and .u32 x 1 = x % 2 := by
  have := lower_eq x 1 (by decide) (by decide) x0 x1
  simpa using this
theorem and15 (x : Int) (x0 : 0 ≤ x) (x1 : x < 4294967296) : Go.bits .and .u32 x 15 = x % 16 := by
  have := lower_eq x 4 (by decide) (by decide) x0 x1
  simpa using this

set_option maxHeartbeats 2000000 in
set_option maxRecDepth 100000 in
theorem walk (n0 : Int) (w0 : (Lit.int .u32 n0).wf = true) (w : World) (L : Laid w) :
    Calls Tryd.prog 8 #[.int .u32 n0] w fun e w' => e = .returned (.bool true) ∧ Grown w w' := by
  have x := bounds_u32 w0
  have D := decode_any n0
  have hgg := gr_gr
  cases hd : decB n0
  · rw [hd] at D
    obtain ⟨z0, z1, z2, z3, z4, z5, z6, z7⟩ := new_facts 0 false false 0 0 0 0 0
    clear hd
    have GD := good_any 0 false false 0 0 0 0 0
    (go_enter Tryd.func8, Tryd.ntmps8; go_wp2_with (first | (go_at_call 14; refine (D _ L (by omega) (by omega)).mono ?_; rintro e w' ⟨rfl, p, rfl⟩) | (go_at_call 11; refine (GD _ (by with_reducible repeat' (first | exact L | apply Laid.gr | apply Laid.alloc))).mono ?_; rintro e w' ⟨rfl, p, rfl⟩) | (go_at_call 13; refine (wakes_any _ (by with_reducible repeat' (first | exact L | apply Laid.gr | apply Laid.alloc))).mono ?_; rintro e w' ⟨rfl, p, rfl⟩)))
    go_ret
    refine ⟨rfl, G.grown ?_⟩
    with_reducible repeat' (first | exact G.refl _ | apply G.gr | apply G.alloc)
  · have GD := good_any (uF n0) (uU n0) (uV n0) (uA n0) (uB n0) (uC n0) (uOp n0) (uIm n0)
    rw [(dec_again hd).2] at GD
    rw [hd] at D
    clear hd
    have x0 : 0 ≤ n0 := x.1
    have e1 : n0 / 1073741824 = uF n0 := by unfold uF; rw [g30 _ x0]; omega
    have e2 : n0 / 536870912 % 2 = fgetI 29 1 false n0 := (g29 _ x0).symm
    have e3 : n0 / 268435456 % 2 = fgetI 28 1 false n0 := (g28 _ x0).symm
    have e4 : n0 / 16777216 % 16 = uA n0 := (g24 _ x0).symm
    have a2 := and1 (n0 / 536870912) (by omega) (by omega)
    have a3 := and1 (n0 / 268435456) (by omega) (by omega)
    have a4 := and15 (n0 / 16777216) (by omega) (by omega)
    rw [e2] at a2
    rw [e3] at a3
    rw [e4] at a4
    have hu : (fgetI 29 1 false n0 == 1) = uU n0 := rfl
    have hv : (fgetI 28 1 false n0 == 1) = uV n0 := rfl
    have bf : 0 ≤ uF n0 ∧ uF n0 < 4 := by omega
    have ba : 0 ≤ uA n0 ∧ uA n0 < 16 := by omega
    clear e2 e3 e4
    revert e1 a2 a3 a4 hu hv bf ba
    revert GD
    revert D
    rw [uIns]
    generalize uF n0 = f
    generalize uU n0 = u
    generalize uV n0 = v
    generalize uA n0 = a
    generalize uB n0 = b
    generalize uC n0 = c
    generalize uOp n0 = op
    generalize uIm n0 = im
    generalize fgetI 29 1 false n0 = k1
    generalize fgetI 28 1 false n0 = k2
    intro D GD e1 a2 a3 a4 hu hv bf ba
    obtain ⟨z0, z1, z2, z3, z4, z5, z6, z7⟩ := new_facts f u v a b c op im
    (go_enter Tryd.func8, Tryd.ntmps8; go_wp2_with (first | (go_at_call 14; refine (D _ L (by omega) (by omega)).mono ?_; rintro e w' ⟨rfl, p, rfl⟩) | (go_at_call 11; refine (GD _ (by with_reducible repeat' (first | exact L | apply Laid.gr | apply Laid.alloc))).mono ?_; rintro e w' ⟨rfl, p, rfl⟩) | (go_at_call 13; refine (wakes_any _ (by with_reducible repeat' (first | exact L | apply Laid.gr | apply Laid.alloc))).mono ?_; rintro e w' ⟨rfl, p, rfl⟩)))
    go_ret
    refine ⟨rfl, G.grown ?_⟩
    with_reducible repeat' (first | exact G.refl _ | apply G.gr | apply G.alloc)

set_option maxRecDepth 100000 in
theorem lifted (os : Os) (started : os.Started) (H : Type) (enc : TypeId × Value → H) :
    ReturnsInHanded {} Tryd.checked os 8 .any (fun w args => (Rows.riscFormsSpec.pre enc Tryd.prog Tryd.f8 [] false w args ∧ laidMetH Tryd.prog laid11 w) ∧ sizedMet enc Tryd.prog Tryd.f8 (OpenSpec.ofChange Rows.riscFormsSpec) false w args)
      (Rows.riscFormsSpec.post enc Tryd.prog Tryd.f8 false true false false) := by
  refine returnsInHanded_of_change_and (C := Tryd.checked) (X := fun w _ => laidMetH Tryd.prog laid11 w) (fun _ _ _ hh h => h.of_heap hh) own started (by kernel_rfl) Tryd.func8
    (ChangeSpec.witness_shaped (enc := enc) (C := Tryd.checked) (os := os) (X := fun w _ => laidMetH Tryd.prog laid11 w) false (World.doorLaid Tryd.prog 400 os) #[.int .u32 0] 8 rfl (World.shaped_of_RefB (by kernel_rfl) (by kernel_rfl)) (by kernel_rfl) (by kernel_rfl) (by kernel_rfl) (door_met os _)) ?_
  intro W base args ds gs before hval0 hW _ _ hL _
  have hval : ∀ (j : Nat) t v, Tryd.f8.params[j]? = some t → args[j]? = some v → Value.okWide Tryd.prog W .any base t v := hval0
  have hW' := hW
  obtain ⟨p, q, hA0, hV, rfl, hfz, hnd⟩ := hW
  have hA : DataW.TrodAll enc Tryd.prog W 0 (fun _ => true) true Tryd.f8.params.toList args.toList ds p := hA0
  rw [Tryd.params8] at hA hval
  obtain ⟨v0, d0, rfl, rfl, h0⟩ := trodAll_one hA
  obtain ⟨rfl, rfl⟩ := trodVars_none hV
  obtain ⟨n0, rfl, rfl, rfl, w0⟩ := open_int Tryd.underlying24 (hval 0 24 v0 rfl rfl) h0
  have LW : Laid W := of_laid hL
  clear hA0 hval0
  simp only [List.append_nil] at hW'
  refine (walk n0 w0 W LW).mono fun e W' ⟨he, hg⟩ => ?_
  subst he
  exact ⟨_, rfl, post_of_same (pa := []) (pv := []) hW' (fun _ _ _ => (trodAll_cons_mk (shut_bool Tryd.underlying4 _) trodAll_mk0)) (fun sp _ => (trodAll_cons_mk (shut_int Tryd.underlying24 w0) trodAll_mk0)) (fun _ _ => rfl) rfl
    (hg.frame _) hg.2.1 (ok_one (by kernel_rfl) rfl (okWide_bool_mk Tryd.underlying4 _))⟩

theorem over : Rows.RiscFormsSaid :=
  OpenClaim.holds_of_wide 8 Tryd.f8 rfl rfl rfl rfl rfl rfl rfl ⟨rfl, rfl, rfl, rfl, rfl⟩ rfl rfl rfl rfl rfl (by kernel_rfl) Tryd.func8 (by kernel_rfl)
    (of_decide_eq_true (by kernel_rfl)) (by unfold Func.isWrapper; first | (rw [if_pos (by decide +kernel)]; kernel_rfl) | (rw [if_neg (by decide +kernel)]; exact ⟨rfl, rfl⟩))
    (fun os started H enc _ => lifted os started H enc)

theorem proved : Rows.RiscFormsCardSaid :=
  Claim7.holds_tied_plain_at .later [] [.wider, .wider, .wider, .wider, .wider, .wider, .wider, .wider, .wider, .wider, .widerDeep] true (true, "b33bd3280ac425d1ec3ffb038d83b25e1c2b6a7dd2b2f06d4cebf8df8a113466") false
    over (fun _ h => by cases h) (by kernel_rfl) (fun _ h => by cases h) riscForms_row_tie rfl ⟨rfl, rfl⟩ (by kernel_rfl) rfl
    (fun g gn hf hfn => by
      obtain rfl : g = 8 := Option.some.inj (hf.symm.trans (by kernel_rfl))
      obtain rfl : gn = Tryd.f8 := (Option.some.inj (Tryd.func8.symm.trans hfn)).symm
      exact ⟨by kernel_rfl, fun j t ht => by
        rw [Tryd.params8] at ht
        have hm : t ∈ [24] := by simpa using Array.mem_of_getElem? ht
        have hall : ([24].all fun k => !Tryd.prog.wantsStandIn k) = true := by kernel_rfl
        exact (show Tryd.prog.wantsStandIn t = false by simpa using List.all_eq_true.1 hall t hm)⟩)
    (by kernel_rfl)
end Go.Proofs.YtnogmacfnlhnlaaDoor.riscForms

namespace Go.Proofs.YtnogmacfnlhnlaaDoor
theorem riscForms_holds : Rows.RiscFormsCardSaid := riscForms.proved
#print axioms riscForms_holds
end Go.Proofs.YtnogmacfnlhnlaaDoor
