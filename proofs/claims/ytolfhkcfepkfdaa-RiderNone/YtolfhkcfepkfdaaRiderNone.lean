/-
  For every number and every text, the law RiderNone answers true: a reader and a writer that nobody made are bad; no conditions.
-/
import Derived.Test.YtolfhkcfepkfdaaRows
import Derived.Test.YtolfhkcfepkfdaaRiarg
import Derived.WalkKit
import Derived.ProofKit
import Derived.Below
import Derived.Test.YtolfhkcfepkfdaaRwk
namespace Go.Proofs.Ytolfhkcfepkfdaa.riderNone
open Go.ChangeShapes Go.WideShapes Go.ChangeAt Go.RowKit Go.ChangeMaps Go.Proofs.Ytolfhkcfepkfdaa.Ri Go.Proofs.Ytolfhkcfepkfdaa.Tx
set_option linter.unusedVariables false
set_option linter.unusedSimpArgs false
set_option maxRecDepth 100000

set_option maxHeartbeats 1000000 in

theorem walk (w : World) (a0 : Int) (w0 : (Lit.int .i64 a0).wf = true) (s1 : List UInt8) (z1 : s1.length ≤ maxLen) :
    Calls Try.prog 7 #[.int .i64 a0, .string (bs s1)] w fun e w' => e = .returned (.bool true) ∧ w.grownBy w' none := by
  have b0' : (⟨#[]⟩ : ByteArray) = bs [] := rfl
  have hemp : (bs []).toList.isEmpty = true := by rw [bs_emp]; rfl
  have HZ := hide z1
  have hn0 : 0 ≤ a0 % 4294967296 ∧ a0 % 4294967296 < 4294967296 := by omega
  obtain ⟨X, hX⟩ : ∃ X, a0 % 4294967296 = X := ⟨_, rfl⟩
  have HX := hide (hX ▸ hn0)
  clear z1 hn0
  go_enter Try.func7, Try.ntmps7
  go_wp2_with (first
    | (go_at_call 16; refine (pwbyte_nil _ _).mono ?_; rintro e w1 ⟨rfl, hg⟩; have G1 := hide hg; clear hg)
    | (go_at_call 17; refine (pwnum_nil _ _).mono ?_; rintro e w2 ⟨rfl, hg⟩; have G2 := hide (grown_trans G1.out hg); clear hg)
    | (go_at_call 18; refine (pwword_nil _ X HX.out.1 HX.out.2).mono ?_; rintro e w3 ⟨rfl, hg⟩; have G3 := hide (grown_trans G2.out hg); clear hg)
    | (go_at_call 19; refine (pwtext_nil _ s1 HZ.out).mono ?_; rintro e w4 ⟨rfl, hg⟩; have G4 := hide (grown_trans G3.out hg); clear hg)
    | (go_at_call 12; refine (pbytes_nil _).mono ?_; rintro e w' ⟨rfl, hw⟩; replace hw := hw.symm; subst hw)
    | (go_at_call 25; refine (pbad_nil _).mono ?_; rintro e w' ⟨rfl, hw⟩; replace hw := hw.symm; subst hw)
    | (go_at_call 24; refine (pend_nil _).mono ?_; rintro e w' ⟨rfl, hw⟩; replace hw := hw.symm; subst hw)
    | (go_at_call 26; refine (pat_nil _).mono ?_; rintro e w' ⟨rfl, hw⟩; replace hw := hw.symm; subst hw)
    | (go_at_call 20; refine (pbyte_nil _).mono ?_; rintro e w' ⟨rfl, hw⟩; replace hw := hw.symm; subst hw)
    | (go_at_call 21; refine (pnum_nil _).mono ?_; rintro e w5 ⟨rfl, hg⟩; have G5 := hide (grown_trans G4.out hg); clear hg)
    | (go_at_call 22; refine (pword_nil _).mono ?_; rintro e w' ⟨rfl, hw⟩; replace hw := hw.symm; subst hw)
    | (go_at_call 23; refine (ptext_nil _).mono ?_; rintro e w' ⟨rfl, hw⟩; replace hw := hw.symm; subst hw)
    | (go_at_call 27; refine (praw_nil _ _).mono ?_; rintro e w' ⟨rfl, hw⟩; replace hw := hw.symm; subst hw)
    | (go_at_call 10; refine (wakes_any _).mono ?_; rintro e w6 ⟨rfl, hg⟩; have G6 := hide (grown_trans G5.out hg); clear hg))
  go_ret
  exact ⟨rfl, G6.out⟩

set_option maxRecDepth 100000 in
theorem lifted (os : Os) (started : os.Started) (H : Type) (enc : TypeId × Value → H) :
    ReturnsInHanded {} Try.checked os 7 .any (Rows.riderNoneSpec.pre6 enc Try.prog Try.f7 Rows.riderNoneRow.domain false) (Rows.riderNoneSpec.post enc Try.prog Try.f7 false true false false) := by
  refine returnsInHanded_of_change (C := Try.checked) own started (by kernel_rfl) Try.func7
    (ChangeSpec.witness6 (enc := enc) (C := Try.checked) false ⟨#[], #[.int .i64 0, .string ⟨#[]⟩], []⟩ 8 (by kernel_rfl) (by kernel_rfl) (by kernel_rfl) (by kernel_rfl)) ?_
  intro W base args ds gs before hval0 hW hcnd _
  have hval : ∀ (j : Nat) t v, Try.f7.params[j]? = some t → args[j]? = some v → Value.okWide Try.prog W .any base t v := hval0
  have hW' := hW
  obtain ⟨p, q, hA0, hV, rfl, hfz, hnd⟩ := hW
  have hA : DataW.TrodAll enc Try.prog W 0 (fun _ => true) true Try.f7.params.toList args.toList ds p := hA0
  rw [Try.params7] at hA hval
  obtain ⟨v0, vs0, d0, ds0, p0, q0, hargs, rfl, rfl, h0, r0⟩ := trodAll_cons hA
  obtain ⟨v1, vs1, d1, ds1, p1, q1, rfl, rfl, rfl, h1, r1⟩ := trodAll_cons r0
  obtain ⟨rfl, rfl, rfl⟩ := trodAll_nil r1
  obtain rfl : args = #[v0, v1] := by cases args; simp_all
  obtain ⟨rfl, rfl⟩ := trodVars_none hV
  have k0 := h0
  have lt0 : ∀ x ∈ p0, x.block < W.heap.size := by obtain ⟨m, hm⟩ := k0; exact DataW.trod_lt m _ _ _ hm
  obtain ⟨a0, rfl, _, _, w0⟩ := open_int Try.underlying3 (hval 0 3 v0 rfl rfl) h0
  have k1 := h1
  have lt1 : ∀ x ∈ p1, x.block < W.heap.size := by obtain ⟨m, hm⟩ := k1; exact DataW.trod_lt m _ _ _ hm
  obtain ⟨s1, rfl, z1⟩ := open_text (hval 1 9 v1 rfl rfl) h1
  clear hA0 hval0
  refine (walk W a0 w0 s1 z1).mono fun e W' ⟨he, hg⟩ => ?_
  subst he
  have bel : Below W.heap.size W W' := ⟨hg.os, hg.tape, hg.output, hg.size, fun k hk => hg.block k hk (by simp)⟩
  exact ⟨_, rfl, _, _, _, [], _, [], hW', trodAll_mk1 (shut_bool Try.underlying4 _), (trodAll_cons_mk (Below.trod laidOut (by kernel_rfl) (of_decide_eq_true (by kernel_rfl)) k0 bel lt0) (trodAll_cons_mk (Below.trod laidOut (by kernel_rfl) (of_decide_eq_true (by kernel_rfl)) k1 bel lt1) trodAll_mk0)), rfl, bel.frame _, fun h => by cases h⟩

theorem proved : Rows.RiderNoneSaid :=
  OpenClaim.holds_of_wide 7 Try.f7 rfl rfl rfl rfl rfl rfl rfl ⟨rfl, rfl, rfl, rfl, rfl⟩ rfl rfl rfl rfl rfl (by kernel_rfl) Try.func7 (by kernel_rfl)
    (of_decide_eq_true (by kernel_rfl)) (by unfold Func.isWrapper; first | (rw [if_pos (by decide +kernel)]; kernel_rfl) | (rw [if_neg (by decide +kernel)]; exact ⟨rfl, rfl⟩))
    (fun os started H enc _ => lifted os started H enc)
end Go.Proofs.Ytolfhkcfepkfdaa.riderNone

namespace Go.Proofs.Ytolfhkcfepkfdaa
theorem riderNone_holds : Rows.RiderNoneSaid := riderNone.proved
#print axioms riderNone_holds
end Go.Proofs.Ytolfhkcfepkfdaa
