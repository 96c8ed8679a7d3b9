/-
  For every text, package asm's Word answers the word, or the error, that the document's own Word answers. The condition: the listed tables (package risc's, package asm's names, Go's own) are as the program's text lays them (the card ties them).
-/
import Derived.Test.YtjeogojgabfbiaaGreatDoorCards
import Derived.Test.YtjeogojgabfbiaaGreatDoorTie
import Derived.Test.YtjeogojgabfbiaaGreatDoorAlaid
import Derived.SevenTiedAt
import Derived.Below
import Derived.ProofKit
import Derived.OpenShut
import Derived.ShutString
import Derived.ChangeOld
import Derived.Test.YtjeogojgabfbiaaGreatDoorCw
import Derived.Test.YtjeogojgabfbiaaGreatDoorAsm15
namespace Go.Proofs.YtjeogojgabfbiaaGreatDoor.asmWords
open Go.ChangeShapes Go.WideShapes Go.ChangeAt Go.RowKit Go.Joins Go.ChangeMaps Go.Proofs.YtjeogojgabfbiaaGreatDoor.Bits Go.Proofs.YtjeogojgabfbiaaGreatDoor.Gw Go.Proofs.YtjeogojgabfbiaaGreatDoor.Tx Go.Proofs.YtjeogojgabfbiaaGreatDoor.Asm
open Go.Proofs.YtjeogojgabfbiaaGreatDoor.Risc (laid11 decR uF)
set_option linter.unusedVariables false

theorem wV_form (s : List UInt8) : ∃ v ec, wV s = .tuple #[.int .u32 v, .int .i64 ec] := by
  by_cases h : ∃ x, decR x = true ∧ lineX x = s
  · obtain ⟨x, h1, h2⟩ := h
    exact ⟨x, 0, by rw [← h2, wV_line h1]⟩
  · exact ⟨0, 60, wV_no fun x _ _ h1 h2 => h ⟨x, h1, h2⟩⟩

theorem walk (w : World) (A : AL w) (s0 : ByteArray) (z0 : s0.size ≤ maxLen) :
    Calls Tryz.prog 4 #[.string s0] w fun e w' => e = .returned (.bool true) ∧ w.grownBy w' none := by
  obtain ⟨s, hs⟩ : ∃ s, s0 = bs s := ⟨s0.data.toList, (bs_of s0).symm⟩
  subst hs
  unfold maxLen at z0
  rw [bs_size] at z0
  have HA := hide A
  have hsz := bs_size s
  by_cases hl : 20000 < s.length
  · clear A
    go_enter Tryz.func4, Tryz.ntmps4
    go_wp2_with fail
    refine (wakes_any _ HA.out).mono ?_
    rintro e w3 ⟨rfl, hg3⟩
    go_wp2_with fail
    go_ret
    exact ⟨rfl, hg3⟩
  · have CL := hide (cWord_any s (by omega) w A)
    have RL := hide (fun W => word_any s (by omega) W)
    obtain ⟨t, ec, hv⟩ := wV_form s
    rw [hv] at CL RL
    clear A hv
    go_enter Tryz.func4, Tryz.ntmps4
    go_wp2_with fail
    refine CL.out.mono ?_
    rintro e w1 ⟨rfl, hg1⟩
    go_wp2_with fail
    refine (RL.out _).mono ?_
    rintro e w2 ⟨rfl, hg2⟩
    have hg12 := grown_trans hg1 hg2
    go_wp2_with fail
    refine (wakes_any _ (HA.out.g hg12)).mono ?_
    rintro e w3 ⟨rfl, hg3⟩
    go_wp2_with fail
    go_ret
    exact ⟨rfl, grown_trans hg12 hg3⟩

set_option maxRecDepth 100000 in
theorem lifted (os : Os) (started : os.Started) (H : Type) (enc : TypeId × Value → H) :
    ReturnsInHanded {} Tryz.checked os 4 .any (fun w args => (Rows.asmWordsSpec.pre enc Tryz.prog Tryz.f4 [] false w args ∧ laidMetH Tryz.prog laid11 w) ∧ sizedMet enc Tryz.prog Tryz.f4 (OpenSpec.ofChange Rows.asmWordsSpec) false w args)
      (Rows.asmWordsSpec.post enc Tryz.prog Tryz.f4 false true false false) := by
  refine handed_and_shaped (C := Tryz.checked) (X := fun w _ => laidMetH Tryz.prog laid11 w) (fun _ _ _ hh h => h.of_heap hh) aown started (by kernel_rfl) Tryz.func4
    (ChangeSpec.witness_shaped (enc := enc) (C := Tryz.checked) (os := os) (X := fun w _ => laidMetH Tryz.prog laid11 w) false (World.laidAll Tryz.prog os laid11) #[.string ⟨#[]⟩] 8 (World.laidAll_os _ _ _) (ashape os) (by kernel_rfl) (by kernel_rfl) (by kernel_rfl) (amet os _)) ?_
  intro W base args ds gs before hval0 hW hL hsh
  have hval : ∀ (j : Nat) t v, Tryz.f4.params[j]? = some t → args[j]? = some v → Value.okWide Tryz.prog W .any base t v := hval0
  have hW' := hW
  obtain ⟨p, q, hA0, hV, rfl, hfz, hnd⟩ := hW
  have hA : DataW.TrodAll enc Tryz.prog W 0 (fun _ => true) true Tryz.f4.params.toList args.toList ds p := hA0
  rw [Tryz.params4] at hA hval
  obtain ⟨v0, vs0, d0, ds0, p0, q0, hargs, rfl, rfl, h0, r0⟩ := trodAll_cons hA
  obtain ⟨rfl, rfl, rfl⟩ := trodAll_nil r0
  obtain rfl : args = #[v0] := by cases args; simp_all
  obtain ⟨rfl, rfl⟩ := trodVars_none hV
  have k0 := h0
  have lt0 : ∀ x ∈ p0, x.block < W.heap.size := by obtain ⟨m, hm⟩ := k0; exact DataW.trod_lt m _ _ _ hm
  obtain ⟨s0, rfl, _, _, z0⟩ := open_string Tryz.underlying9 (hval 0 9 v0 rfl rfl) h0
  have AW : AL W := of_laid_al hL hsh
  clear hA0 hval0
  refine (walk W AW s0 z0).mono fun e W' ⟨he, hg⟩ => ?_
  subst he
  have bel : Below W.heap.size W W' := ⟨hg.os, hg.tape, hg.output, hg.size, fun k hk => hg.block k hk (by simp)⟩
  exact ⟨_, rfl, _, _, _, [], _, [], hW', trodAll_mk1 (shut_bool Tryz.underlying4 _), (trodAll_cons_mk (Below.trod laidOut (by kernel_rfl) (of_decide_eq_true (by kernel_rfl)) k0 bel lt0) trodAll_mk0), rfl, bel.frame _, fun h => by cases h⟩

theorem over : Rows.AsmWordsSaid :=
  OpenClaim.holds_of_wide 4 Tryz.f4 rfl rfl rfl rfl rfl rfl rfl ⟨rfl, rfl, rfl, rfl, rfl⟩ rfl rfl rfl rfl rfl (by kernel_rfl) Tryz.func4 (by kernel_rfl)
    (of_decide_eq_true (by kernel_rfl)) (by unfold Func.isWrapper; first | (rw [if_pos (by decide +kernel)]; kernel_rfl) | (rw [if_neg (by decide +kernel)]; exact ⟨rfl, rfl⟩))
    (fun os started H enc _ => lifted os started H enc)

theorem proved : Rows.AsmWordsCardSaid :=
  Claim7.holds_tied_plain_at .later [] [.data, .data, .data, .data, .wider, .wider, .wider, .wider, .wider, .wider, .wider, .wider, .wider, .wider, .widerDeep, .sentinel, .sentinel, .data, .data, .pinned] true (true, "1c984e226b10c7b2f957a292c865e02521e7a4b439fb36d058f03fafe4b224e4") true
    over (fun _ h => by cases h) (by kernel_rfl) (fun _ h => by cases h) asmWords_row_tie rfl ⟨rfl, rfl⟩ (by kernel_rfl) rfl
    (fun g gn hf hfn => by
      obtain rfl : g = 4 := Option.some.inj (hf.symm.trans (by kernel_rfl))
      obtain rfl : gn = Tryz.f4 := (Option.some.inj (Tryz.func4.symm.trans hfn)).symm
      exact ⟨by kernel_rfl, fun j t ht => by
        rw [Tryz.params4] at ht
        have hm : t ∈ [9] := by simpa using Array.mem_of_getElem? ht
        have hall : ([9].all fun k => !Tryz.prog.wantsStandIn k) = true := by kernel_rfl
        exact (show Tryz.prog.wantsStandIn t = false by simpa using List.all_eq_true.1 hall t hm)⟩)
    (by kernel_rfl)
end Go.Proofs.YtjeogojgabfbiaaGreatDoor.asmWords

namespace Go.Proofs.YtjeogojgabfbiaaGreatDoor
theorem asmWords_holds : Rows.AsmWordsCardSaid := asmWords.proved
#print axioms asmWords_holds
end Go.Proofs.YtjeogojgabfbiaaGreatDoor
