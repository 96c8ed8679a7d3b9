/-
  For every text and every number, the law RiderEnds answers true: cut off anywhere, and behind a bad call, a reader stays within its text and tells nothing any more; no conditions.
-/
import Derived.Test.YtolfhkcfepkfdaaRows
import Derived.Test.YtolfhkcfepkfdaaRiarg
import Derived.WalkKit
import Derived.ProofKit
import Derived.Below
import Derived.Test.YtolfhkcfepkfdaaRwk
namespace Go.Proofs.Ytolfhkcfepkfdaa.riderEnds
open Go.ChangeShapes Go.WideShapes Go.ChangeAt Go.RowKit Go.ChangeMaps Go.Proofs.Ytolfhkcfepkfdaa.Ri Go.Proofs.Ytolfhkcfepkfdaa.Tx
set_option linter.unusedVariables false
set_option linter.unusedSimpArgs false
set_option maxRecDepth 100000

/- A reader of the law's own, since w began. -/
structure Rw (w W : World) (q : Nat) (s : List UInt8) (p : Nat) (bad : Bool) : Prop where
  rd : Pb W q s p bad
  gr : w.grownBy W none
  lq : w.heap.size ≤ q
theorem Rw.next {w W W' : World} {q p p' : Nat} {s : List UInt8} {bad bad' : Bool} (r : Rw w W q s p bad) (h : Pb W' q s p' bad') (hg : W.grownBy W' (some q)) : Rw w W' q s p' bad' := ⟨h, grown_own r.gr r.lq hg, r.lq⟩
set_option maxHeartbeats 2000000 in

theorem walk (w : World) (s0 : List UInt8) (z0 : s0.length ≤ maxLen) (a1 : Int) (w1 : (Lit.int .i64 a1).wf = true) :
    Calls Try.prog 6 #[.string (bs s0), .int .i64 a1] w fun e w' => e = .returned (.bool true) ∧ w.grownBy w' none := by
  have b0' : (⟨#[]⟩ : ByteArray) = bs [] := rfl
  have hemp : (bs []).toList.isEmpty = true := by rw [bs_emp]; rfl
  have hsz := bs_size s0
  have l0 : (s0.length : Int) ≤ 9223372036854775807 := by unfold maxLen at z0; omega
  obtain ⟨n0, n1⟩ : -9223372036854775808 ≤ a1 ∧ a1 ≤ 9223372036854775807 := by
    have e0 : IntKind.i64.min = -9223372036854775808 := by decide
    have e1 : IntKind.i64.max = 9223372036854775807 := by decide
    simp [Lit.wf, e0, e1] at w1
    omega
  clear z0 w1
  by_cases hbig : (200000 : Int) < s0.length
  · go_enter Try.func6, Try.ntmps6
    go_wp2_with (go_at_call 10; refine (wakes_any _).mono ?_; rintro e w9 ⟨rfl, hg⟩; have G9 := hide hg; clear hg)
    go_ret
    exact ⟨rfl, G9.out⟩
  · have HM := hide (show s0.length ≤ 1000000 by omega)
    by_cases hin : 0 ≤ a1 ∧ a1 ≤ s0.length
    · obtain ⟨N, rfl⟩ := Int.eq_ofNat_of_zero_le hin.1
      have hN : N ≤ s0.length := by omega
      have j1 : ¬ (N : Int) < 0 := by omega
      have j2 : ¬ (s0.length : Int) < N := by omega
      have j3 : (N : Int) ≤ s0.length := by omega
      have hx := bs_upto s0 N
      have HNl := hide (show 0 + N ≤ s0.length by omega)
      have HC := hide (show canB s0 (0 + N) false ((s0.length : Int) - N + 1) = false by simp [canB]; omega)
      have hne : ((bs (s0.take N)).toList != (bs (s0.take N)).toList) = false := by simp
      have hnn : ((N : Int) != N) = false := by simp
      clear hin
      go_enter Try.func6, Try.ntmps6
      go_wp2_with (first
        | (go_at_call 14; refine (read_new _ s0 HM.out).mono ?_; rintro e w1 ⟨rfl, h1, h2⟩; have H1 := hide (show Rw w w1 w.heap.size s0 0 false from ⟨h1, h2, Nat.le_refl _⟩); generalize w.heap.size = Q at H1 ⊢; clear h1 h2)
        | (go_at_call 27; refine (praw_no H3.out.rd ((0 : Nat) : Int) (no_more (.inl rfl))).mono ?_; rintro e w4 ⟨rfl, h1, h2⟩; have H4 := hide (H3.out.next h1 h2); clear h1 h2)
        | (go_at_call 27; refine (praw_no H2.out.rd _ HC.out).mono ?_; rintro e w3 ⟨rfl, h1, h2⟩; have H3 := hide (H2.out.next h1 h2); clear h1 h2)
        | (go_at_call 27; refine (praw_yes H1.out.rd N HNl.out).mono ?_; rw [List.drop_zero]; rintro e w2 ⟨rfl, h1, h2⟩; have H2 := hide (H1.out.next h1 h2); clear h1 h2)
        | (go_at_call 25; refine (pbad_at H4.out.rd).mono ?_; rintro e w' ⟨rfl, hw⟩; replace hw := hw.symm; subst hw) | (go_at_call 25; refine (pbad_at H3.out.rd).mono ?_; rintro e w' ⟨rfl, hw⟩; replace hw := hw.symm; subst hw) | (go_at_call 25; refine (pbad_at H2.out.rd).mono ?_; rintro e w' ⟨rfl, hw⟩; replace hw := hw.symm; subst hw) | (go_at_call 26; refine (pat_at H4.out.rd).mono ?_; rintro e w' ⟨rfl, hw⟩; replace hw := hw.symm; subst hw) | (go_at_call 26; refine (pat_at H3.out.rd).mono ?_; rintro e w' ⟨rfl, hw⟩; replace hw := hw.symm; subst hw) | (go_at_call 26; refine (pat_at H2.out.rd).mono ?_; rintro e w' ⟨rfl, hw⟩; replace hw := hw.symm; subst hw) | (go_at_call 24; refine (pend_at H4.out.rd).mono ?_; rintro e w' ⟨rfl, hw⟩; replace hw := hw.symm; subst hw)
        | (go_at_call 10; refine (wakes_any _).mono ?_; rintro e w9 ⟨rfl, hg⟩; have G9 := hide (grown_trans H4.out.gr hg); clear hg))
      go_ret
      exact ⟨rfl, G9.out⟩
    · have HC := hide (show canB s0 0 false a1 = false by simp [canB]; omega)
      by_cases hneg : a1 < 0
      · clear hin
        go_enter Try.func6, Try.ntmps6
        go_wp2_with (first
          | (go_at_call 14; refine (read_new _ s0 HM.out).mono ?_; rintro e w1 ⟨rfl, h1, h2⟩; have H1 := hide (show Rw w w1 w.heap.size s0 0 false from ⟨h1, h2, Nat.le_refl _⟩); generalize w.heap.size = Q at H1 ⊢; clear h1 h2)
          | (go_at_call 27; refine (praw_no H6.out.rd ((0 : Nat) : Int) (no_more (.inl rfl))).mono ?_; rintro e w7 ⟨rfl, h1, h2⟩; have H7 := hide (H6.out.next h1 h2); clear h1 h2)
          | (go_at_call 27; refine (praw_no H1.out.rd a1 HC.out).mono ?_; rintro e w2 ⟨rfl, h1, h2⟩; have H2 := hide (H1.out.next h1 h2); clear h1 h2)
          | (go_at_call 20; refine (pbyte_no H2.out.rd (.inl rfl)).mono ?_; rintro e w3 ⟨rfl, h1, h2⟩; have H3 := hide (H2.out.next h1 h2); clear h1 h2)
          | (go_at_call 21; refine (pnum_was H3.out.rd).mono ?_; rintro e w4 ⟨rfl, h1, h2⟩; have H4 := hide (H3.out.next h1 h2); clear h1 h2)
          | (go_at_call 22; refine (pword_no H4.out.rd (.inl rfl)).mono ?_; rintro e w5 ⟨rfl, h1, h2⟩; have H5 := hide (H4.out.next h1 h2); clear h1 h2)
          | (go_at_call 23; refine (ptext_no H5.out.rd (.inl rfl)).mono ?_; rintro e w6 ⟨rfl, h1, h2⟩; have H6 := hide (H5.out.next h1 h2); clear h1 h2)
          | (go_at_call 26; refine (pat_at H7.out.rd).mono ?_; rintro e w' ⟨rfl, hw⟩; replace hw := hw.symm; subst hw) | (go_at_call 25; refine (pbad_at H2.out.rd).mono ?_; rintro e w' ⟨rfl, hw⟩; replace hw := hw.symm; subst hw) | (go_at_call 26; refine (pat_at H2.out.rd).mono ?_; rintro e w' ⟨rfl, hw⟩; replace hw := hw.symm; subst hw) | (go_at_call 24; refine (pend_at H7.out.rd).mono ?_; rintro e w' ⟨rfl, hw⟩; replace hw := hw.symm; subst hw)
          | (go_at_call 10; refine (wakes_any _).mono ?_; rintro e w9 ⟨rfl, hg⟩; have G9 := hide (grown_trans H7.out.gr hg); clear hg))
        go_ret
        exact ⟨rfl, G9.out⟩
      · have j2 : (s0.length : Int) < a1 := by omega
        clear hin
        go_enter Try.func6, Try.ntmps6
        go_wp2_with (first
          | (go_at_call 14; refine (read_new _ s0 HM.out).mono ?_; rintro e w1 ⟨rfl, h1, h2⟩; have H1 := hide (show Rw w w1 w.heap.size s0 0 false from ⟨h1, h2, Nat.le_refl _⟩); generalize w.heap.size = Q at H1 ⊢; clear h1 h2)
          | (go_at_call 27; refine (praw_no H6.out.rd ((0 : Nat) : Int) (no_more (.inl rfl))).mono ?_; rintro e w7 ⟨rfl, h1, h2⟩; have H7 := hide (H6.out.next h1 h2); clear h1 h2)
          | (go_at_call 27; refine (praw_no H1.out.rd a1 HC.out).mono ?_; rintro e w2 ⟨rfl, h1, h2⟩; have H2 := hide (H1.out.next h1 h2); clear h1 h2)
          | (go_at_call 20; refine (pbyte_no H2.out.rd (.inl rfl)).mono ?_; rintro e w3 ⟨rfl, h1, h2⟩; have H3 := hide (H2.out.next h1 h2); clear h1 h2)
          | (go_at_call 21; refine (pnum_was H3.out.rd).mono ?_; rintro e w4 ⟨rfl, h1, h2⟩; have H4 := hide (H3.out.next h1 h2); clear h1 h2)
          | (go_at_call 22; refine (pword_no H4.out.rd (.inl rfl)).mono ?_; rintro e w5 ⟨rfl, h1, h2⟩; have H5 := hide (H4.out.next h1 h2); clear h1 h2)
          | (go_at_call 23; refine (ptext_no H5.out.rd (.inl rfl)).mono ?_; rintro e w6 ⟨rfl, h1, h2⟩; have H6 := hide (H5.out.next h1 h2); clear h1 h2)
          | (go_at_call 26; refine (pat_at H7.out.rd).mono ?_; rintro e w' ⟨rfl, hw⟩; replace hw := hw.symm; subst hw) | (go_at_call 25; refine (pbad_at H2.out.rd).mono ?_; rintro e w' ⟨rfl, hw⟩; replace hw := hw.symm; subst hw) | (go_at_call 26; refine (pat_at H2.out.rd).mono ?_; rintro e w' ⟨rfl, hw⟩; replace hw := hw.symm; subst hw) | (go_at_call 24; refine (pend_at H7.out.rd).mono ?_; rintro e w' ⟨rfl, hw⟩; replace hw := hw.symm; subst hw)
          | (go_at_call 10; refine (wakes_any _).mono ?_; rintro e w9 ⟨rfl, hg⟩; have G9 := hide (grown_trans H7.out.gr hg); clear hg))
        go_ret
        exact ⟨rfl, G9.out⟩

set_option maxRecDepth 100000 in
theorem lifted (os : Os) (started : os.Started) (H : Type) (enc : TypeId × Value → H) :
    ReturnsInHanded {} Try.checked os 6 .any (Rows.riderEndsSpec.pre6 enc Try.prog Try.f6 Rows.riderEndsRow.domain false) (Rows.riderEndsSpec.post enc Try.prog Try.f6 false true false false) := by
  refine returnsInHanded_of_change (C := Try.checked) own started (by kernel_rfl) Try.func6
    (ChangeSpec.witness6 (enc := enc) (C := Try.checked) false ⟨#[], #[.string ⟨#[]⟩, .int .i64 0], []⟩ 8 (by kernel_rfl) (by kernel_rfl) (by kernel_rfl) (by kernel_rfl)) ?_
  intro W base args ds gs before hval0 hW hcnd _
  have hval : ∀ (j : Nat) t v, Try.f6.params[j]? = some t → args[j]? = some v → Value.okWide Try.prog W .any base t v := hval0
  have hW' := hW
  obtain ⟨p, q, hA0, hV, rfl, hfz, hnd⟩ := hW
  have hA : DataW.TrodAll enc Try.prog W 0 (fun _ => true) true Try.f6.params.toList args.toList ds p := hA0
  rw [Try.params6] at hA hval
  obtain ⟨v0, vs0, d0, ds0, p0, q0, hargs, rfl, rfl, h0, r0⟩ := trodAll_cons hA
  obtain ⟨v1, vs1, d1, ds1, p1, q1, rfl, rfl, rfl, h1, r1⟩ := trodAll_cons r0
  obtain ⟨rfl, rfl, rfl⟩ := trodAll_nil r1
  obtain rfl : args = #[v0, v1] := by cases args; simp_all
  obtain ⟨rfl, rfl⟩ := trodVars_none hV
  have k0 := h0
  have lt0 : ∀ x ∈ p0, x.block < W.heap.size := by obtain ⟨m, hm⟩ := k0; exact DataW.trod_lt m _ _ _ hm
  obtain ⟨s0, rfl, z0⟩ := open_text (hval 0 9 v0 rfl rfl) h0
  have k1 := h1
  have lt1 : ∀ x ∈ p1, x.block < W.heap.size := by obtain ⟨m, hm⟩ := k1; exact DataW.trod_lt m _ _ _ hm
  obtain ⟨a1, rfl, _, _, w1⟩ := open_int Try.underlying3 (hval 1 3 v1 rfl rfl) h1
  clear hA0 hval0
  refine (walk W s0 z0 a1 w1).mono fun e W' ⟨he, hg⟩ => ?_
  subst he
  have bel : Below W.heap.size W W' := ⟨hg.os, hg.tape, hg.output, hg.size, fun k hk => hg.block k hk (by simp)⟩
  exact ⟨_, rfl, _, _, _, [], _, [], hW', trodAll_mk1 (shut_bool Try.underlying4 _), (trodAll_cons_mk (Below.trod laidOut (by kernel_rfl) (of_decide_eq_true (by kernel_rfl)) k0 bel lt0) (trodAll_cons_mk (Below.trod laidOut (by kernel_rfl) (of_decide_eq_true (by kernel_rfl)) k1 bel lt1) trodAll_mk0)), rfl, bel.frame _, fun h => by cases h⟩

theorem proved : Rows.RiderEndsSaid :=
  OpenClaim.holds_of_wide 6 Try.f6 rfl rfl rfl rfl rfl rfl rfl ⟨rfl, rfl, rfl, rfl, rfl⟩ rfl rfl rfl rfl rfl (by kernel_rfl) Try.func6 (by kernel_rfl)
    (of_decide_eq_true (by kernel_rfl)) (by unfold Func.isWrapper; first | (rw [if_pos (by decide +kernel)]; kernel_rfl) | (rw [if_neg (by decide +kernel)]; exact ⟨rfl, rfl⟩))
    (fun os started H enc _ => lifted os started H enc)
end Go.Proofs.Ytolfhkcfepkfdaa.riderEnds

namespace Go.Proofs.Ytolfhkcfepkfdaa
theorem riderEnds_holds : Rows.RiderEndsSaid := riderEnds.proved
#print axioms riderEnds_holds
end Go.Proofs.Ytolfhkcfepkfdaa
