/-
  For every condition, distance and link: a jump by a distance of 24 bits with its sign is written and read as it was, and one by any other distance is no instruction; no condition but that package risc's tables start as the program's text lays them (the card ties them to that text).
-/
import Derived.Test.YtnogmacfnlhnlaaDoorCards
import Derived.Test.YtnogmacfnlhnlaaDoorTie
import Derived.Test.YtnogmacfnlhnlaaDoorRargs
import Derived.SevenTiedAt
import Derived.Test.YtnogmacfnlhnlaaDoorRmath2
import Derived.Test.YtnogmacfnlhnlaaDoorRwak
namespace Go.Proofs.YtnogmacfnlhnlaaDoor.riscJumps
open Go.ChangeShapes Go.WideShapes Go.ChangeAt Go.RowKit Go.Joins Go.Proofs.YtnogmacfnlhnlaaDoor.Risc Go.Proofs.YtnogmacfnlhnlaaDoor.Bits Go.Proofs.YtnogmacfnlhnlaaDoor.Gw
set_option linter.unusedVariables false

theorem jump_good (v : Bool) (a im : Int) (h : 0 ≤ a ∧ a < 16) : goodB 3 true v a 0 0 0 im = decide (-8388608 ≤ im ∧ im < 8388608) := by
  rw [Bool.eq_iff_iff, decide_eq_true_iff, good_eq, good_iff, back_iff]
  simp [operB]
  omega

set_option maxHeartbeats 2000000 in
set_option maxRecDepth 100000 in
theorem walk (n0 : Int) (w0 : (Lit.int .i64 n0).wf = true) (n1 : Int) (w1 : (Lit.int .i64 n1).wf = true) (b2 : Bool) (w : World) (L : Laid w) :
    Calls Tryd.prog 6 #[.int .i64 n0, .int .i64 n1, .bool b2] w fun e w' => e = .returned (.bool true) ∧ Grown w w' := by
  have x := bounds_i64 w1
  obtain ⟨q, hq⟩ : ∃ q, IntKind.u64.wrap n0 = q := ⟨_, rfl⟩
  have q0 : 0 ≤ q := by rw [← hq, IntKind.wrap_u64]; exact Int.emod_nonneg _ (by decide)
  obtain ⟨A, hA⟩ : ∃ A, q % 16 = A := ⟨_, rfl⟩
  have hA' : q.tmod 16 = A := by rw [Int.tmod_eq_emod_of_nonneg q0]; exact hA
  have A0 : 0 ≤ A ∧ A < 16 := by omega
  have L0 : Laid (w.alloc (.cells #[.int .i64 3, .bool true, .bool b2, .int .i64 A, .int .i64 0, .int .i64 0, .int .i64 0, .int .i64 n1] 23)) := L.g ((G.refl w).alloc _ _)
  have hgg := gr_gr
  obtain ⟨o0, o1, o2, o3, o4, o5, o6, o7⟩ := old_facts 3 true b2 A 0 0 0 n1
  have E := encode_any 3 true b2 A 0 0 0 n1
  have hg := jump_good b2 A n1 A0
  have DX0 : goodB 3 true b2 A 0 0 0 n1 = true → ∀ W, Laid W → Calls Tryd.prog 14 #[.int .u32 (packI 3 true b2 A 0 0 0 n1)] W fun e w' => e = .returned (.tuple #[ins 3 true b2 A 0 0 0 n1, .int .i64 0]) ∧ ∃ p : By, w' = gr W p := fun hg W hW => by
    have := decode_any (packI 3 true b2 A 0 0 0 n1) W hW (pack_range ..).1 (pack_range ..).2
    rw [(read_written hg).1, (read_written hg).2, if_pos rfl] at this
    exact this
  revert E DX0 hg
  generalize packI 3 true b2 A 0 0 0 n1 = X
  generalize goodB 3 true b2 A 0 0 0 n1 = g
  intro E hg DX0
  by_cases h1 : n1 < -8388608
  · have : g = false := by rw [hg]; exact decide_eq_false (by omega)
    subst this
    simp only [Bool.false_eq_true, if_false] at E
    have DX := True.intro
    clear DX0 hg
    (go_enter Tryd.func6, Tryd.ntmps6; go_wp2_with (first | (go_at_call 9; refine (E _ (by with_reducible repeat' (first | exact L0 | apply Laid.gr | apply Laid.alloc))).mono ?_; rintro e w' ⟨rfl, p, rfl⟩) | (go_at_call 14; refine (DX _ (by with_reducible repeat' (first | exact L0 | apply Laid.gr | apply Laid.alloc))).mono ?_; rintro e w' ⟨rfl, p, rfl⟩) | (go_at_call 13; refine (wakes_any _ (by with_reducible repeat' (first | exact L0 | apply Laid.gr | apply Laid.alloc))).mono ?_; rintro e w' ⟨rfl, p, rfl⟩)))
    (go_ret; refine ⟨rfl, G.grown ?_⟩; with_reducible repeat' (first | exact G.refl _ | apply G.gr | apply G.alloc))
  by_cases h2 : 8388608 ≤ n1
  · have : g = false := by rw [hg]; exact decide_eq_false (by omega)
    subst this
    simp only [Bool.false_eq_true, if_false] at E
    have DX := True.intro
    clear DX0 hg
    (go_enter Tryd.func6, Tryd.ntmps6; go_wp2_with (first | (go_at_call 9; refine (E _ (by with_reducible repeat' (first | exact L0 | apply Laid.gr | apply Laid.alloc))).mono ?_; rintro e w' ⟨rfl, p, rfl⟩) | (go_at_call 14; refine (DX _ (by with_reducible repeat' (first | exact L0 | apply Laid.gr | apply Laid.alloc))).mono ?_; rintro e w' ⟨rfl, p, rfl⟩) | (go_at_call 13; refine (wakes_any _ (by with_reducible repeat' (first | exact L0 | apply Laid.gr | apply Laid.alloc))).mono ?_; rintro e w' ⟨rfl, p, rfl⟩)))
    (go_ret; refine ⟨rfl, G.grown ?_⟩; with_reducible repeat' (first | exact G.refl _ | apply G.gr | apply G.alloc))
  · have : g = true := by rw [hg]; exact decide_eq_true (by omega)
    subst this
    simp only [if_true] at E
    have DX := DX0 rfl
    clear DX0 hg
    (go_enter Tryd.func6, Tryd.ntmps6; go_wp2_with (first | (go_at_call 9; refine (E _ (by with_reducible repeat' (first | exact L0 | apply Laid.gr | apply Laid.alloc))).mono ?_; rintro e w' ⟨rfl, p, rfl⟩) | (go_at_call 14; refine (DX _ (by with_reducible repeat' (first | exact L0 | apply Laid.gr | apply Laid.alloc))).mono ?_; rintro e w' ⟨rfl, p, rfl⟩) | (go_at_call 13; refine (wakes_any _ (by with_reducible repeat' (first | exact L0 | apply Laid.gr | apply Laid.alloc))).mono ?_; rintro e w' ⟨rfl, p, rfl⟩)))
    (go_ret; refine ⟨rfl, G.grown ?_⟩; with_reducible repeat' (first | exact G.refl _ | apply G.gr | apply G.alloc))

set_option maxRecDepth 100000 in
theorem lifted (os : Os) (started : os.Started) (H : Type) (enc : TypeId × Value → H) :
    ReturnsInHanded {} Tryd.checked os 6 .any (fun w args => (Rows.riscJumpsSpec.pre enc Tryd.prog Tryd.f6 [] false w args ∧ laidMetH Tryd.prog laid11 w) ∧ sizedMet enc Tryd.prog Tryd.f6 (OpenSpec.ofChange Rows.riscJumpsSpec) false w args)
      (Rows.riscJumpsSpec.post enc Tryd.prog Tryd.f6 false true false false) := by
  refine returnsInHanded_of_change_and (C := Tryd.checked) (X := fun w _ => laidMetH Tryd.prog laid11 w) (fun _ _ _ hh h => h.of_heap hh) own started (by kernel_rfl) Tryd.func6
    (ChangeSpec.witness_shaped (enc := enc) (C := Tryd.checked) (os := os) (X := fun w _ => laidMetH Tryd.prog laid11 w) false (World.doorLaid Tryd.prog 400 os) #[.int .i64 0, .int .i64 0, .bool false] 8 rfl (World.shaped_of_RefB (by kernel_rfl) (by kernel_rfl)) (by kernel_rfl) (by kernel_rfl) (by kernel_rfl) (door_met os _)) ?_
  intro W base args ds gs before hval0 hW _ _ hL _
  have hval : ∀ (j : Nat) t v, Tryd.f6.params[j]? = some t → args[j]? = some v → Value.okWide Tryd.prog W .any base t v := hval0
  have hW' := hW
  obtain ⟨p, q, hA0, hV, rfl, hfz, hnd⟩ := hW
  have hA : DataW.TrodAll enc Tryd.prog W 0 (fun _ => true) true Tryd.f6.params.toList args.toList ds p := hA0
  rw [Tryd.params6] at hA hval
  obtain ⟨v0, vs0, d0, ds0, p0, q0, hargs, rfl, rfl, h0, r0⟩ := trodAll_cons hA
  obtain ⟨v1, vs1, d1, ds1, p1, q1, rfl, rfl, rfl, h1, r1⟩ := trodAll_cons r0
  obtain ⟨v2, vs2, d2, ds2, p2, q2, rfl, rfl, rfl, h2, r2⟩ := trodAll_cons r1
  obtain ⟨rfl, rfl, rfl⟩ := trodAll_nil r2
  obtain rfl : args = #[v0, v1, v2] := by cases args; simp_all
  obtain ⟨rfl, rfl⟩ := trodVars_none hV
  obtain ⟨n0, rfl, rfl, rfl, w0⟩ := open_int Tryd.underlying3 (hval 0 3 v0 rfl rfl) h0
  obtain ⟨n1, rfl, rfl, rfl, w1⟩ := open_int Tryd.underlying3 (hval 1 3 v1 rfl rfl) h1
  obtain ⟨b2, rfl, rfl, rfl⟩ := open_bool Tryd.underlying4 (hval 2 4 v2 rfl rfl) h2
  have LW : Laid W := of_laid hL
  clear hA0 hval0
  simp only [List.append_nil] at hW'
  refine (walk n0 w0 n1 w1 b2 W LW).mono fun e W' ⟨he, hg⟩ => ?_
  subst he
  exact ⟨_, rfl, post_of_same (pa := []) (pv := []) hW' (fun _ _ _ => (trodAll_cons_mk (shut_bool Tryd.underlying4 _) trodAll_mk0)) (fun sp _ => (trodAll_cons_mk (shut_int Tryd.underlying3 w0) (trodAll_cons_mk (shut_int Tryd.underlying3 w1) (trodAll_cons_mk (shut_bool Tryd.underlying4 _) trodAll_mk0)))) (fun _ _ => rfl) rfl
    (hg.frame _) hg.2.1 (ok_one (by kernel_rfl) rfl (okWide_bool_mk Tryd.underlying4 _))⟩

theorem over : Rows.RiscJumpsSaid :=
  OpenClaim.holds_of_wide 6 Tryd.f6 rfl rfl rfl rfl rfl rfl rfl ⟨rfl, rfl, rfl, rfl, rfl⟩ rfl rfl rfl rfl rfl (by kernel_rfl) Tryd.func6 (by kernel_rfl)
    (of_decide_eq_true (by kernel_rfl)) (by unfold Func.isWrapper; first | (rw [if_pos (by decide +kernel)]; kernel_rfl) | (rw [if_neg (by decide +kernel)]; exact ⟨rfl, rfl⟩))
    (fun os started H enc _ => lifted os started H enc)

theorem proved : Rows.RiscJumpsCardSaid :=
  Claim7.holds_tied_plain_at .later [] [.wider, .wider, .wider, .wider, .wider, .wider, .wider, .wider, .wider, .wider, .widerDeep] true (true, "b33bd3280ac425d1ec3ffb038d83b25e1c2b6a7dd2b2f06d4cebf8df8a113466") false
    over (fun _ h => by cases h) (by kernel_rfl) (fun _ h => by cases h) riscJumps_row_tie rfl ⟨rfl, rfl⟩ (by kernel_rfl) rfl
    (fun g gn hf hfn => by
      obtain rfl : g = 6 := Option.some.inj (hf.symm.trans (by kernel_rfl))
      obtain rfl : gn = Tryd.f6 := (Option.some.inj (Tryd.func6.symm.trans hfn)).symm
      exact ⟨by kernel_rfl, fun j t ht => by
        rw [Tryd.params6] at ht
        have hm : t ∈ [3, 3, 4] := by simpa using Array.mem_of_getElem? ht
        have hall : ([3, 3, 4].all fun k => !Tryd.prog.wantsStandIn k) = true := by kernel_rfl
        exact (show Tryd.prog.wantsStandIn t = false by simpa using List.all_eq_true.1 hall t hm)⟩)
    (by kernel_rfl)
end Go.Proofs.YtnogmacfnlhnlaaDoor.riscJumps

namespace Go.Proofs.YtnogmacfnlhnlaaDoor
theorem riscJumps_holds : Rows.RiscJumpsCardSaid := riscJumps.proved
#print axioms riscJumps_holds
end Go.Proofs.YtnogmacfnlhnlaaDoor
