/-
  For every value and every word, what Encode writes Decode reads as it was, what Decode reads Encode writes as it was and Good holds of it, and where it reads none the instruction is the zero one; no condition but that package risc's tables start as the program's text lays them (the card ties them to that text).
-/
import Derived.Test.YtnogmacfnlhnlaaDoorCards
import Derived.Test.YtnogmacfnlhnlaaDoorTie
import Derived.Test.YtnogmacfnlhnlaaDoorRargs
import Derived.SevenTiedAt
import Derived.Test.YtnogmacfnlhnlaaDoorRmath2
import Derived.Test.YtnogmacfnlhnlaaDoorRwak
namespace Go.Proofs.YtnogmacfnlhnlaaDoor.riscBack
open Go.ChangeShapes Go.WideShapes Go.ChangeAt Go.RowKit Go.Joins Go.Proofs.YtnogmacfnlhnlaaDoor.Risc Go.Proofs.YtnogmacfnlhnlaaDoor.Bits Go.Proofs.YtnogmacfnlhnlaaDoor.Gw
set_option linter.unusedVariables false

theorem bad12 : goodB 0 false false 0 0 0 12 0 = false := by kernel_rfl

set_option maxHeartbeats 2000000 in
set_option maxRecDepth 100000 in
theorem walk (f : Int) (u v : Bool) (a b c op im : Int) (wf : (Lit.int .i64 f).wf = true) (wa : (Lit.int .i64 a).wf = true) (wb : (Lit.int .i64 b).wf = true) (wc : (Lit.int .i64 c).wf = true) (wo : (Lit.int .i64 op).wf = true) (wi : (Lit.int .i64 im).wf = true) (n1 : Int) (w1 : (Lit.int .u32 n1).wf = true) (w : World) (L : Laid w) :
    Calls Tryd.prog 5 #[ins f u v a b c op im, .int .u32 n1] w fun e w' => e = .returned (.bool true) ∧ Grown w w' := by
  have x := bounds_u32 w1
  obtain ⟨k0, k1, k2, k3, k4, k5, k6, k7⟩ := box_facts f u v a b c op im w
  obtain ⟨o0, o1, o2, o3, o4, o5, o6, o7⟩ := old_facts f u v a b c op im
  have L0 : Laid (w.alloc (.cells #[.int .i64 f, .bool u, .bool v, .int .i64 a, .int .i64 b, .int .i64 c, .int .i64 op, .int .i64 im] 23)) := L.g ((G.refl w).alloc _ _)
  have hgg := gr_gr
  have E := encode_any f u v a b c op im
  have D := decode_any n1
  have B12 := good_any 0 false false 0 0 0 12 0
  rw [bad12] at B12
  have DX0 : goodB f u v a b c op im = true → ∀ W, Laid W → Calls Tryd.prog 14 #[.int .u32 (packI f u v a b c op im)] W fun e w' => e = .returned (.tuple #[ins f u v a b c op im, .int .i64 0]) ∧ ∃ p : By, w' = gr W p := fun hg W hW => by
    have := decode_any (packI f u v a b c op im) W hW (pack_range ..).1 (pack_range ..).2
    rw [(read_written hg).1, (read_written hg).2, if_pos rfl] at this
    exact this
  have E20 : decB n1 = true → ∀ W, Laid W → Calls Tryd.prog 9 #[uIns n1] W fun e w' => e = .returned (.tuple #[.int .u32 n1, .int .i64 0]) ∧ ∃ p : By, w' = gr W p := fun hd W hW => by
    have := encode_any (uF n1) (uU n1) (uV n1) (uA n1) (uB n1) (uC n1) (uOp n1) (uIm n1) W hW
    rw [(dec_again hd).2, if_pos rfl, show packI (uF n1) (uU n1) (uV n1) (uA n1) (uB n1) (uC n1) (uOp n1) (uIm n1) = n1 from (dec_again hd).1] at this
    exact this
  have G20 : decB n1 = true → ∀ W, Laid W → Calls Tryd.prog 11 #[uIns n1] W fun e w' => e = .returned (.bool true) ∧ ∃ p : By, w' = gr W p := fun hd W hW => by
    have := good_any (uF n1) (uU n1) (uV n1) (uA n1) (uB n1) (uC n1) (uOp n1) (uIm n1) W hW
    rw [(dec_again hd).2] at this
    exact this
  revert E DX0
  generalize packI f u v a b c op im = X
  generalize goodB f u v a b c op im = g
  intro E DX0
  cases hd : decB n1
  · rw [hd] at D
    simp only [Bool.false_eq_true, if_false] at D
    clear E20 G20 hd
    obtain ⟨z0, z1, z2, z3, z4, z5, z6, z7⟩ := new_facts 0 false false 0 0 0 0 0
    have E2 := True.intro
    have G2 := True.intro
    have f2 := True.intro
    cases g
    · simp only [Bool.false_eq_true, if_false] at E
      have DX := True.intro
      clear DX0
      (go_enter Tryd.func5, Tryd.ntmps5; go_wp2_with (first | (go_at_call_of 9 f; refine (E _ (by with_reducible repeat' (first | exact L0 | apply Laid.gr | apply Laid.alloc))).mono ?_; rintro e w' ⟨rfl, p, rfl⟩) | (go_at_call_of 9 f2; refine (E2 _ (by with_reducible repeat' (first | exact L0 | apply Laid.gr | apply Laid.alloc))).mono ?_; rintro e w' ⟨rfl, p, rfl⟩) | (go_at_call_of 14 n1; refine (D _ (by with_reducible repeat' (first | exact L0 | apply Laid.gr | apply Laid.alloc)) (by omega) (by omega)).mono ?_; rintro e w' ⟨rfl, p, rfl⟩) | (go_at_call_of 14 X; refine (DX _ (by with_reducible repeat' (first | exact L0 | apply Laid.gr | apply Laid.alloc))).mono ?_; rintro e w' ⟨rfl, p, rfl⟩) | (go_at_call_of 11 f2; refine (G2 _ (by with_reducible repeat' (first | exact L0 | apply Laid.gr | apply Laid.alloc))).mono ?_; rintro e w' ⟨rfl, p, rfl⟩) | (go_at_call 11; refine (B12 _ (by with_reducible repeat' (first | exact L0 | apply Laid.gr | apply Laid.alloc))).mono ?_; rintro e w' ⟨rfl, p, rfl⟩) | (go_at_call 16; refine (same_any _ _ _ _ _ _ _ _ _).mono ?_; rintro e w' ⟨rfl, p, rfl⟩) | (go_at_call 13; refine (wakes_any _ (by with_reducible repeat' (first | exact L0 | apply Laid.gr | apply Laid.alloc))).mono ?_; rintro e w' ⟨rfl, p, rfl⟩)))
      (go_ret; refine ⟨rfl, G.grown ?_⟩; with_reducible repeat' (first | exact G.refl _ | apply G.gr | apply G.alloc))
    · have DX := DX0 rfl
      simp only [if_true] at E
      clear DX0
      (go_enter Tryd.func5, Tryd.ntmps5; go_wp2_with (first | (go_at_call_of 9 f; refine (E _ (by with_reducible repeat' (first | exact L0 | apply Laid.gr | apply Laid.alloc))).mono ?_; rintro e w' ⟨rfl, p, rfl⟩) | (go_at_call_of 9 f2; refine (E2 _ (by with_reducible repeat' (first | exact L0 | apply Laid.gr | apply Laid.alloc))).mono ?_; rintro e w' ⟨rfl, p, rfl⟩) | (go_at_call_of 14 n1; refine (D _ (by with_reducible repeat' (first | exact L0 | apply Laid.gr | apply Laid.alloc)) (by omega) (by omega)).mono ?_; rintro e w' ⟨rfl, p, rfl⟩) | (go_at_call_of 14 X; refine (DX _ (by with_reducible repeat' (first | exact L0 | apply Laid.gr | apply Laid.alloc))).mono ?_; rintro e w' ⟨rfl, p, rfl⟩) | (go_at_call_of 11 f2; refine (G2 _ (by with_reducible repeat' (first | exact L0 | apply Laid.gr | apply Laid.alloc))).mono ?_; rintro e w' ⟨rfl, p, rfl⟩) | (go_at_call 11; refine (B12 _ (by with_reducible repeat' (first | exact L0 | apply Laid.gr | apply Laid.alloc))).mono ?_; rintro e w' ⟨rfl, p, rfl⟩) | (go_at_call 16; refine (same_any _ _ _ _ _ _ _ _ _).mono ?_; rintro e w' ⟨rfl, p, rfl⟩) | (go_at_call 13; refine (wakes_any _ (by with_reducible repeat' (first | exact L0 | apply Laid.gr | apply Laid.alloc))).mono ?_; rintro e w' ⟨rfl, p, rfl⟩)))
      (go_ret; refine ⟨rfl, G.grown ?_⟩; with_reducible repeat' (first | exact G.refl _ | apply G.gr | apply G.alloc))
  · have E2 := E20 hd
    have G2 := G20 hd
    rw [hd] at D
    simp only [if_true] at D
    clear E20 G20 hd
    revert D E2 G2
    rw [uIns]
    generalize uF n1 = f2
    generalize uU n1 = u2
    generalize uV n1 = v2
    generalize uA n1 = a2
    generalize uB n1 = b2
    generalize uC n1 = c2
    generalize uOp n1 = op2
    generalize uIm n1 = im2
    intro E2 G2 D
    obtain ⟨z0, z1, z2, z3, z4, z5, z6, z7⟩ := new_facts f2 u2 v2 a2 b2 c2 op2 im2
    cases g
    · simp only [Bool.false_eq_true, if_false] at E
      have DX := True.intro
      clear DX0
      (go_enter Tryd.func5, Tryd.ntmps5; go_wp2_with (first | (go_at_call_of 9 f; refine (E _ (by with_reducible repeat' (first | exact L0 | apply Laid.gr | apply Laid.alloc))).mono ?_; rintro e w' ⟨rfl, p, rfl⟩) | (go_at_call_of 9 f2; refine (E2 _ (by with_reducible repeat' (first | exact L0 | apply Laid.gr | apply Laid.alloc))).mono ?_; rintro e w' ⟨rfl, p, rfl⟩) | (go_at_call_of 14 n1; refine (D _ (by with_reducible repeat' (first | exact L0 | apply Laid.gr | apply Laid.alloc)) (by omega) (by omega)).mono ?_; rintro e w' ⟨rfl, p, rfl⟩) | (go_at_call_of 14 X; refine (DX _ (by with_reducible repeat' (first | exact L0 | apply Laid.gr | apply Laid.alloc))).mono ?_; rintro e w' ⟨rfl, p, rfl⟩) | (go_at_call_of 11 f2; refine (G2 _ (by with_reducible repeat' (first | exact L0 | apply Laid.gr | apply Laid.alloc))).mono ?_; rintro e w' ⟨rfl, p, rfl⟩) | (go_at_call 11; refine (B12 _ (by with_reducible repeat' (first | exact L0 | apply Laid.gr | apply Laid.alloc))).mono ?_; rintro e w' ⟨rfl, p, rfl⟩) | (go_at_call 16; refine (same_any _ _ _ _ _ _ _ _ _).mono ?_; rintro e w' ⟨rfl, p, rfl⟩) | (go_at_call 13; refine (wakes_any _ (by with_reducible repeat' (first | exact L0 | apply Laid.gr | apply Laid.alloc))).mono ?_; rintro e w' ⟨rfl, p, rfl⟩)))
      (go_ret; refine ⟨rfl, G.grown ?_⟩; with_reducible repeat' (first | exact G.refl _ | apply G.gr | apply G.alloc))
    · have DX := DX0 rfl
      simp only [if_true] at E
      clear DX0
      (go_enter Tryd.func5, Tryd.ntmps5; go_wp2_with (first | (go_at_call_of 9 f; refine (E _ (by with_reducible repeat' (first | exact L0 | apply Laid.gr | apply Laid.alloc))).mono ?_; rintro e w' ⟨rfl, p, rfl⟩) | (go_at_call_of 9 f2; refine (E2 _ (by with_reducible repeat' (first | exact L0 | apply Laid.gr | apply Laid.alloc))).mono ?_; rintro e w' ⟨rfl, p, rfl⟩) | (go_at_call_of 14 n1; refine (D _ (by with_reducible repeat' (first | exact L0 | apply Laid.gr | apply Laid.alloc)) (by omega) (by omega)).mono ?_; rintro e w' ⟨rfl, p, rfl⟩) | (go_at_call_of 14 X; refine (DX _ (by with_reducible repeat' (first | exact L0 | apply Laid.gr | apply Laid.alloc))).mono ?_; rintro e w' ⟨rfl, p, rfl⟩) | (go_at_call_of 11 f2; refine (G2 _ (by with_reducible repeat' (first | exact L0 | apply Laid.gr | apply Laid.alloc))).mono ?_; rintro e w' ⟨rfl, p, rfl⟩) | (go_at_call 11; refine (B12 _ (by with_reducible repeat' (first | exact L0 | apply Laid.gr | apply Laid.alloc))).mono ?_; rintro e w' ⟨rfl, p, rfl⟩) | (go_at_call 16; refine (same_any _ _ _ _ _ _ _ _ _).mono ?_; rintro e w' ⟨rfl, p, rfl⟩) | (go_at_call 13; refine (wakes_any _ (by with_reducible repeat' (first | exact L0 | apply Laid.gr | apply Laid.alloc))).mono ?_; rintro e w' ⟨rfl, p, rfl⟩)))
      (go_ret; refine ⟨rfl, G.grown ?_⟩; with_reducible repeat' (first | exact G.refl _ | apply G.gr | apply G.alloc))

set_option maxRecDepth 100000 in
theorem lifted (os : Os) (started : os.Started) (H : Type) (enc : TypeId × Value → H) :
    ReturnsInHanded {} Tryd.checked os 5 .any (fun w args => (Rows.riscBackSpec.pre enc Tryd.prog Tryd.f5 [] false w args ∧ laidMetH Tryd.prog laid11 w) ∧ sizedMet enc Tryd.prog Tryd.f5 (OpenSpec.ofChange Rows.riscBackSpec) false w args)
      (Rows.riscBackSpec.post enc Tryd.prog Tryd.f5 false true false false) := by
  refine returnsInHanded_of_change_and (C := Tryd.checked) (X := fun w _ => laidMetH Tryd.prog laid11 w) (fun _ _ _ hh h => h.of_heap hh) own started (by kernel_rfl) Tryd.func5
    (ChangeSpec.witness_shaped (enc := enc) (C := Tryd.checked) (os := os) (X := fun w _ => laidMetH Tryd.prog laid11 w) false (World.doorLaid Tryd.prog 400 os) #[.agg #[.int .i64 0, .bool false, .bool false, .int .i64 0, .int .i64 0, .int .i64 0, .int .i64 0, .int .i64 0], .int .u32 0] 8 rfl (World.shaped_of_RefB (by kernel_rfl) (by kernel_rfl)) (by kernel_rfl) (by kernel_rfl) (by kernel_rfl) (door_met os _)) ?_
  intro W base args ds gs before hval0 hW _ _ hL _
  have hval : ∀ (j : Nat) t v, Tryd.f5.params[j]? = some t → args[j]? = some v → Value.okWide Tryd.prog W .any base t v := hval0
  have hW' := hW
  obtain ⟨p, q, hA0, hV, rfl, hfz, hnd⟩ := hW
  have hA : DataW.TrodAll enc Tryd.prog W 0 (fun _ => true) true Tryd.f5.params.toList args.toList ds p := hA0
  rw [Tryd.params5] at hA hval
  obtain ⟨v0, vs0, d0, ds0, p0, q0, hargs, rfl, rfl, h0, r0⟩ := trodAll_cons hA
  obtain ⟨v1, vs1, d1, ds1, p1, q1, rfl, rfl, rfl, h1, r1⟩ := trodAll_cons r0
  obtain ⟨rfl, rfl, rfl⟩ := trodAll_nil r1
  obtain rfl : args = #[v0, v1] := by cases args; simp_all
  obtain ⟨rfl, rfl⟩ := trodVars_none hV
  obtain ⟨f, u, v, a, b, c, op, im, rfl, rfl, rfl, wf, wa, wb, wc, wo, wi⟩ := open_ins (hval 0 23 v0 rfl rfl) h0
  obtain ⟨n1, rfl, rfl, rfl, w1⟩ := open_int Tryd.underlying24 (hval 1 24 v1 rfl rfl) h1
  have LW : Laid W := of_laid hL
  clear hA0 hval0
  simp only [List.append_nil] at hW'
  refine (walk f u v a b c op im wf wa wb wc wo wi n1 w1 W LW).mono fun e W' ⟨he, hg⟩ => ?_
  subst he
  exact ⟨_, rfl, post_of_same (pa := []) (pv := []) hW' (fun _ _ _ => (trodAll_cons_mk (shut_bool Tryd.underlying4 _) trodAll_mk0)) (fun sp _ => (trodAll_cons_mk (shut_ins wf wa wb wc wo wi) (trodAll_cons_mk (shut_int Tryd.underlying24 w1) trodAll_mk0))) (fun _ _ => rfl) rfl
    (hg.frame _) hg.2.1 (ok_one (by kernel_rfl) rfl (okWide_bool_mk Tryd.underlying4 _))⟩

theorem over : Rows.RiscBackSaid :=
  OpenClaim.holds_of_wide 5 Tryd.f5 rfl rfl rfl rfl rfl rfl rfl ⟨rfl, rfl, rfl, rfl, rfl⟩ rfl rfl rfl rfl rfl (by kernel_rfl) Tryd.func5 (by kernel_rfl)
    (of_decide_eq_true (by kernel_rfl)) (by unfold Func.isWrapper; first | (rw [if_pos (by decide +kernel)]; kernel_rfl) | (rw [if_neg (by decide +kernel)]; exact ⟨rfl, rfl⟩))
    (fun os started H enc _ => lifted os started H enc)

theorem proved : Rows.RiscBackCardSaid :=
  Claim7.holds_tied_plain_at .later [] [.wider, .wider, .wider, .wider, .wider, .wider, .wider, .wider, .wider, .wider, .widerDeep] true (true, "b33bd3280ac425d1ec3ffb038d83b25e1c2b6a7dd2b2f06d4cebf8df8a113466") false
    over (fun _ h => by cases h) (by kernel_rfl) (fun _ h => by cases h) riscBack_row_tie rfl ⟨rfl, rfl⟩ (by kernel_rfl) rfl
    (fun g gn hf hfn => by
      obtain rfl : g = 5 := Option.some.inj (hf.symm.trans (by kernel_rfl))
      obtain rfl : gn = Tryd.f5 := (Option.some.inj (Tryd.func5.symm.trans hfn)).symm
      exact ⟨by kernel_rfl, fun j t ht => by
        rw [Tryd.params5] at ht
        have hm : t ∈ [23, 24] := by simpa using Array.mem_of_getElem? ht
        have hall : ([23, 24].all fun k => !Tryd.prog.wantsStandIn k) = true := by kernel_rfl
        exact (show Tryd.prog.wantsStandIn t = false by simpa using List.all_eq_true.1 hall t hm)⟩)
    (by kernel_rfl)
end Go.Proofs.YtnogmacfnlhnlaaDoor.riscBack

namespace Go.Proofs.YtnogmacfnlhnlaaDoor
theorem riscBack_holds : Rows.RiscBackCardSaid := riscBack.proved
#print axioms riscBack_holds
end Go.Proofs.YtnogmacfnlhnlaaDoor
