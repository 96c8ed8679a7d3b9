/-
  For every value that is an instruction and every number: another register in its first field, or, where it is no jump, in its second, turns just that field's bits of its word; no condition but that package risc's tables start as the program's text lays them (the card ties them to that text).
-/
import Derived.Test.YtnogmacfnlhnlaaDoorCards
import Derived.Test.YtnogmacfnlhnlaaDoorTie
import Derived.Test.YtnogmacfnlhnlaaDoorRargs
import Derived.SevenTiedAt
import Derived.Test.YtnogmacfnlhnlaaDoorRflds
import Derived.Test.YtnogmacfnlhnlaaDoorRwak
namespace Go.Proofs.YtnogmacfnlhnlaaDoor.riscFields
open Go.ChangeShapes Go.WideShapes Go.ChangeAt Go.RowKit Go.Joins Go.Proofs.YtnogmacfnlhnlaaDoor.Risc Go.Proofs.YtnogmacfnlhnlaaDoor.Bits Go.Proofs.YtnogmacfnlhnlaaDoor.Gw
set_option linter.unusedVariables false


set_option maxHeartbeats 2000000 in
set_option maxRecDepth 100000 in
theorem walk (f : Int) (u v : Bool) (a b c op im : Int) (wf : (Lit.int .i64 f).wf = true) (wa : (Lit.int .i64 a).wf = true) (wb : (Lit.int .i64 b).wf = true) (wc : (Lit.int .i64 c).wf = true) (wo : (Lit.int .i64 op).wf = true) (wi : (Lit.int .i64 im).wf = true) (n1 : Int) (w1 : (Lit.int .i64 n1).wf = true) (w : World) (L : Laid w) :
    Calls Tryd.prog 7 #[ins f u v a b c op im, .int .i64 n1] w fun e w' => e = .returned (.bool true) ∧ Grown w w' := by
  obtain ⟨q, hq⟩ : ∃ q, IntKind.u64.wrap n1 = q := ⟨_, rfl⟩
  have q0 : 0 ≤ q := by rw [← hq, IntKind.wrap_u64]; exact Int.emod_nonneg _ (by decide)
  obtain ⟨A, hA⟩ : ∃ A, q % 16 = A := ⟨_, rfl⟩
  have hA' : q.tmod 16 = A := by rw [Int.tmod_eq_emod_of_nonneg q0]; exact hA
  have A0 : 0 ≤ A ∧ A < 16 := by omega
  have L0 : Laid (w.alloc (.cells #[.int .i64 f, .bool u, .bool v, .int .i64 a, .int .i64 b, .int .i64 c, .int .i64 op, .int .i64 im] 23)) := L.g ((G.refl w).alloc _ _)
  have hgg := gr_gr
  obtain ⟨k0, k1, k2, k3, k4, k5, k6, k7⟩ := box_facts f u v a b c op im w
  obtain ⟨y0, y1, y2, y3, y4, y5, y6, y7⟩ := new_facts f u v A b c op im
  obtain ⟨z0, z1, z2, z3, z4, z5, z6, z7⟩ := new_facts f u v a A c op im
  obtain ⟨m0, m1, m2, m3, m4, m5, m6, m7⟩ := older_facts f u v a b c op im
  obtain ⟨o0, o1, o2, o3, o4, o5, o6, o7⟩ := old_facts f u v A b c op im
  have E := encode_any f u v a b c op im
  have EY := encode_any f u v A b c op im
  have EZ := encode_any f u v a A c op im
  have GA := fun h => good_a (A := A) A0 (f := f) (u := u) (v := v) (a := a) (b := b) (c := c) (op := op) (im := im) h
  have GB := fun hf h => good_b (A := A) A0 (f := f) (u := u) (v := v) (a := a) (b := b) (c := c) (op := op) (im := im) hf h
  have FA := field_a f u v a A b c op im A0
  have FB := field_b f u v a A b c op im A0
  have RY := pack_range f u v A b c op im
  have RZ := pack_range f u v a A c op im
  revert E
  revert EY
  revert EZ
  revert GA
  revert GB
  revert FA
  revert FB
  revert RY
  revert RZ
  generalize packI f u v a b c op im = X
  generalize packI f u v A b c op im = Y
  generalize packI f u v a A c op im = Z
  generalize goodB f u v a b c op im = g
  generalize goodB f u v A b c op im = gy
  generalize goodB f u v a A c op im = gz
  intro RZ RY FB FA GB GA EZ EY E
  cases g
  · simp only [Bool.false_eq_true, if_false] at E
    clear GA GB FA FB
    cases gy
    · simp only [Bool.false_eq_true, if_false] at EY
      (go_enter Tryd.func7, Tryd.ntmps7; go_wp2_with (first | (go_at_call_of 9 A; go_at_call_of 9 b; refine (EY _ (by with_reducible repeat' (first | exact L0 | apply Laid.gr | apply Laid.alloc))).mono ?_; rintro e w' ⟨rfl, p, rfl⟩) | (go_at_call_of 9 A; refine (EZ _ (by with_reducible repeat' (first | exact L0 | apply Laid.gr | apply Laid.alloc))).mono ?_; rintro e w' ⟨rfl, p, rfl⟩) | (go_at_call 9; refine (E _ (by with_reducible repeat' (first | exact L0 | apply Laid.gr | apply Laid.alloc))).mono ?_; rintro e w' ⟨rfl, p, rfl⟩) | (go_at_call 13; refine (wakes_any _ (by with_reducible repeat' (first | exact L0 | apply Laid.gr | apply Laid.alloc))).mono ?_; rintro e w' ⟨rfl, p, rfl⟩)))
      (go_ret; refine ⟨rfl, G.grown ?_⟩; with_reducible repeat' (first | exact G.refl _ | apply G.gr | apply G.alloc))
    · simp only [if_true] at EY
      (go_enter Tryd.func7, Tryd.ntmps7; go_wp2_with (first | (go_at_call_of 9 A; go_at_call_of 9 b; refine (EY _ (by with_reducible repeat' (first | exact L0 | apply Laid.gr | apply Laid.alloc))).mono ?_; rintro e w' ⟨rfl, p, rfl⟩) | (go_at_call_of 9 A; refine (EZ _ (by with_reducible repeat' (first | exact L0 | apply Laid.gr | apply Laid.alloc))).mono ?_; rintro e w' ⟨rfl, p, rfl⟩) | (go_at_call 9; refine (E _ (by with_reducible repeat' (first | exact L0 | apply Laid.gr | apply Laid.alloc))).mono ?_; rintro e w' ⟨rfl, p, rfl⟩) | (go_at_call 13; refine (wakes_any _ (by with_reducible repeat' (first | exact L0 | apply Laid.gr | apply Laid.alloc))).mono ?_; rintro e w' ⟨rfl, p, rfl⟩)))
      (go_ret; refine ⟨rfl, G.grown ?_⟩; with_reducible repeat' (first | exact G.refl _ | apply G.gr | apply G.alloc))
  · have hgy := GA rfl
    subst hgy
    simp only [if_true] at E EY
    obtain ⟨xy, hxy⟩ : ∃ n, Go.bits .xor .u32 X Y = n := ⟨_, rfl⟩
    rw [hxy] at FA
    obtain ⟨a1, a2⟩ := FA
    have ry0 := RY.1
    have ry1 := RY.2
    have rz0 := RZ.1
    have rz1 := RZ.2
    clear RY RZ GA
    by_cases h3 : f = 3
    · have e3 : (f == 3) = true := by simp [h3]
      clear GB FB EZ h3
      have EZ := True.intro
      (go_enter Tryd.func7, Tryd.ntmps7; go_wp2_with (first | (go_at_call_of 9 A; go_at_call_of 9 b; refine (EY _ (by with_reducible repeat' (first | exact L0 | apply Laid.gr | apply Laid.alloc))).mono ?_; rintro e w' ⟨rfl, p, rfl⟩) | (go_at_call_of 9 A; refine (EZ _ (by with_reducible repeat' (first | exact L0 | apply Laid.gr | apply Laid.alloc))).mono ?_; rintro e w' ⟨rfl, p, rfl⟩) | (go_at_call 9; refine (E _ (by with_reducible repeat' (first | exact L0 | apply Laid.gr | apply Laid.alloc))).mono ?_; rintro e w' ⟨rfl, p, rfl⟩) | (go_at_call 13; refine (wakes_any _ (by with_reducible repeat' (first | exact L0 | apply Laid.gr | apply Laid.alloc))).mono ?_; rintro e w' ⟨rfl, p, rfl⟩)))
      (go_ret; refine ⟨rfl, G.grown ?_⟩; with_reducible repeat' (first | exact G.refl _ | apply G.gr | apply G.alloc))
    · have e3 : (f == 3) = false := by simp [h3]
      obtain ⟨hgz, hf⟩ := GB h3 rfl
      subst hgz
      obtain ⟨b1, b2⟩ := FB hf
      simp only [if_true] at EZ
      obtain ⟨xz, hxz⟩ : ∃ n, Go.bits .xor .u32 X Z = n := ⟨_, rfl⟩
      rw [hxz] at b1
      clear GB FB h3 hf
      (go_enter Tryd.func7, Tryd.ntmps7; go_wp2_with (first | (go_at_call_of 9 A; go_at_call_of 9 b; refine (EY _ (by with_reducible repeat' (first | exact L0 | apply Laid.gr | apply Laid.alloc))).mono ?_; rintro e w' ⟨rfl, p, rfl⟩) | (go_at_call_of 9 A; refine (EZ _ (by with_reducible repeat' (first | exact L0 | apply Laid.gr | apply Laid.alloc))).mono ?_; rintro e w' ⟨rfl, p, rfl⟩) | (go_at_call 9; refine (E _ (by with_reducible repeat' (first | exact L0 | apply Laid.gr | apply Laid.alloc))).mono ?_; rintro e w' ⟨rfl, p, rfl⟩) | (go_at_call 13; refine (wakes_any _ (by with_reducible repeat' (first | exact L0 | apply Laid.gr | apply Laid.alloc))).mono ?_; rintro e w' ⟨rfl, p, rfl⟩)))
      (go_ret; refine ⟨rfl, G.grown ?_⟩; with_reducible repeat' (first | exact G.refl _ | apply G.gr | apply G.alloc))

set_option maxRecDepth 100000 in
theorem lifted (os : Os) (started : os.Started) (H : Type) (enc : TypeId × Value → H) :
    ReturnsInHanded {} Tryd.checked os 7 .any (fun w args => (Rows.riscFieldsSpec.pre enc Tryd.prog Tryd.f7 [] false w args ∧ laidMetH Tryd.prog laid11 w) ∧ sizedMet enc Tryd.prog Tryd.f7 (OpenSpec.ofChange Rows.riscFieldsSpec) false w args)
      (Rows.riscFieldsSpec.post enc Tryd.prog Tryd.f7 false true false false) := by
  refine returnsInHanded_of_change_and (C := Tryd.checked) (X := fun w _ => laidMetH Tryd.prog laid11 w) (fun _ _ _ hh h => h.of_heap hh) own started (by kernel_rfl) Tryd.func7
    (ChangeSpec.witness_shaped (enc := enc) (C := Tryd.checked) (os := os) (X := fun w _ => laidMetH Tryd.prog laid11 w) false (World.doorLaid Tryd.prog 400 os) #[.agg #[.int .i64 0, .bool false, .bool false, .int .i64 0, .int .i64 0, .int .i64 0, .int .i64 0, .int .i64 0], .int .i64 0] 8 rfl (World.shaped_of_RefB (by kernel_rfl) (by kernel_rfl)) (by kernel_rfl) (by kernel_rfl) (by kernel_rfl) (door_met os _)) ?_
  intro W base args ds gs before hval0 hW _ _ hL _
  have hval : ∀ (j : Nat) t v, Tryd.f7.params[j]? = some t → args[j]? = some v → Value.okWide Tryd.prog W .any base t v := hval0
  have hW' := hW
  obtain ⟨p, q, hA0, hV, rfl, hfz, hnd⟩ := hW
  have hA : DataW.TrodAll enc Tryd.prog W 0 (fun _ => true) true Tryd.f7.params.toList args.toList ds p := hA0
  rw [Tryd.params7] at hA hval
  obtain ⟨v0, vs0, d0, ds0, p0, q0, hargs, rfl, rfl, h0, r0⟩ := trodAll_cons hA
  obtain ⟨v1, vs1, d1, ds1, p1, q1, rfl, rfl, rfl, h1, r1⟩ := trodAll_cons r0
  obtain ⟨rfl, rfl, rfl⟩ := trodAll_nil r1
  obtain rfl : args = #[v0, v1] := by cases args; simp_all
  obtain ⟨rfl, rfl⟩ := trodVars_none hV
  obtain ⟨f, u, v, a, b, c, op, im, rfl, rfl, rfl, wf, wa, wb, wc, wo, wi⟩ := open_ins (hval 0 23 v0 rfl rfl) h0
  obtain ⟨n1, rfl, rfl, rfl, w1⟩ := open_int Tryd.underlying3 (hval 1 3 v1 rfl rfl) h1
  have LW : Laid W := of_laid hL
  clear hA0 hval0
  simp only [List.append_nil] at hW'
  refine (walk f u v a b c op im wf wa wb wc wo wi n1 w1 W LW).mono fun e W' ⟨he, hg⟩ => ?_
  subst he
  exact ⟨_, rfl, post_of_same (pa := []) (pv := []) hW' (fun _ _ _ => (trodAll_cons_mk (shut_bool Tryd.underlying4 _) trodAll_mk0)) (fun sp _ => (trodAll_cons_mk (shut_ins wf wa wb wc wo wi) (trodAll_cons_mk (shut_int Tryd.underlying3 w1) trodAll_mk0))) (fun _ _ => rfl) rfl
    (hg.frame _) hg.2.1 (ok_one (by kernel_rfl) rfl (okWide_bool_mk Tryd.underlying4 _))⟩

theorem over : Rows.RiscFieldsSaid :=
  OpenClaim.holds_of_wide 7 Tryd.f7 rfl rfl rfl rfl rfl rfl rfl ⟨rfl, rfl, rfl, rfl, rfl⟩ rfl rfl rfl rfl rfl (by kernel_rfl) Tryd.func7 (by kernel_rfl)
    (of_decide_eq_true (by kernel_rfl)) (by unfold Func.isWrapper; first | (rw [if_pos (by decide +kernel)]; kernel_rfl) | (rw [if_neg (by decide +kernel)]; exact ⟨rfl, rfl⟩))
    (fun os started H enc _ => lifted os started H enc)

theorem proved : Rows.RiscFieldsCardSaid :=
  Claim7.holds_tied_plain_at .later [] [.wider, .wider, .wider, .wider, .wider, .wider, .wider, .wider, .wider, .wider, .widerDeep] true (true, "b33bd3280ac425d1ec3ffb038d83b25e1c2b6a7dd2b2f06d4cebf8df8a113466") false
    over (fun _ h => by cases h) (by kernel_rfl) (fun _ h => by cases h) riscFields_row_tie rfl ⟨rfl, rfl⟩ (by kernel_rfl) rfl
    (fun g gn hf hfn => by
      obtain rfl : g = 7 := Option.some.inj (hf.symm.trans (by kernel_rfl))
      obtain rfl : gn = Tryd.f7 := (Option.some.inj (Tryd.func7.symm.trans hfn)).symm
      exact ⟨by kernel_rfl, fun j t ht => by
        rw [Tryd.params7] at ht
        have hm : t ∈ [23, 3] := by simpa using Array.mem_of_getElem? ht
        have hall : ([23, 3].all fun k => !Tryd.prog.wantsStandIn k) = true := by kernel_rfl
        exact (show Tryd.prog.wantsStandIn t = false by simpa using List.all_eq_true.1 hall t hm)⟩)
    (by kernel_rfl)
end Go.Proofs.YtnogmacfnlhnlaaDoor.riscFields

namespace Go.Proofs.YtnogmacfnlhnlaaDoor
theorem riscFields_holds : Rows.RiscFieldsCardSaid := riscFields.proved
#print axioms riscFields_holds
end Go.Proofs.YtnogmacfnlhnlaaDoor
