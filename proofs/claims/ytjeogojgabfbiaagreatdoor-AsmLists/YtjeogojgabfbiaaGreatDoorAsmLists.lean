/-
  For every list of words package asm's Lines answers the text that the document's own Lines answers, and leaves the list as it was; for every text its Words answers the words, or the number of the first line that is none and the error, that the document's own Words answers. The condition: the listed tables (package risc's, package asm's names, Go's own) are as the program's text lays them (the card ties them).
-/
import Derived.Test.YtjeogojgabfbiaaGreatDoorCards
import Derived.Test.YtjeogojgabfbiaaGreatDoorTie
import Derived.Test.YtjeogojgabfbiaaGreatDoorAlaid
import Derived.SevenTiedAt
import Derived.Below
import Derived.ProofKit
import Derived.OpenShut
import Derived.ShutString
import Derived.ChangeOld
import Derived.Test.YtjeogojgabfbiaaGreatDoorRy
namespace Go.Proofs.YtjeogojgabfbiaaGreatDoor.asmLists
open Go.ChangeShapes Go.WideShapes Go.ChangeAt Go.RowKit Go.Joins Go.ChangeMaps Go.Proofs.YtjeogojgabfbiaaGreatDoor.Bits Go.Proofs.YtjeogojgabfbiaaGreatDoor.Gw Go.Proofs.YtjeogojgabfbiaaGreatDoor.Tx Go.Proofs.YtjeogojgabfbiaaGreatDoor.Asm
open Go.Proofs.YtjeogojgabfbiaaGreatDoor.Risc (laid11 decR uF)
set_option linter.unusedVariables false


theorem walk (w : World) (A : AH w) (o0 : Option Addr) (n0 c0 : Nat) (x0 : List Int) (W0 : Wl w o0 n0 c0 x0) (s1 : ByteArray) (z1 : s1.size ≤ maxLen) :
    Calls Tryz.prog 5 #[.slice o0 n0 c0, .string s1] w fun e w' => e = .returned (.bool true) ∧ w.grownBy w' none := by
  obtain ⟨s, hs⟩ : ∃ s, s1 = bs s := ⟨s1.data.toList, (bs_of s1).symm⟩
  subst hs
  unfold maxLen at z1
  rw [bs_size] at z1
  exact lists_walk w A o0 n0 c0 x0 W0 s (by omega)

set_option maxRecDepth 100000 in
theorem lifted (os : Os) (started : os.Started) (H : Type) (enc : TypeId × Value → H) :
    ReturnsInHanded {} Tryz.checked os 5 .any (fun w args => (Rows.asmListsSpec.pre enc Tryz.prog Tryz.f5 [] false w args ∧ laidMetH Tryz.prog laid11 w) ∧ sizedMet enc Tryz.prog Tryz.f5 (OpenSpec.ofChange Rows.asmListsSpec) false w args)
      (Rows.asmListsSpec.post enc Tryz.prog Tryz.f5 false true false false) := by
  refine handed_and_shaped (C := Tryz.checked) (X := fun w _ => laidMetH Tryz.prog laid11 w) (fun _ _ _ hh h => h.of_heap hh) aown started (by kernel_rfl) Tryz.func5
    (ChangeSpec.witness_shaped (enc := enc) (C := Tryz.checked) (os := os) (X := fun w _ => laidMetH Tryz.prog laid11 w) false (World.laidAll Tryz.prog os laid11) #[.slice none 0 0, .string ⟨#[]⟩] 8 (World.laidAll_os _ _ _) (ashape os) (by kernel_rfl) (by kernel_rfl) (by kernel_rfl) (amet os _)) ?_
  intro W base args ds gs before hval0 hW hL hsh
  have hval : ∀ (j : Nat) t v, Tryz.f5.params[j]? = some t → args[j]? = some v → Value.okWide Tryz.prog W .any base t v := hval0
  have hW' := hW
  obtain ⟨p, q, hA0, hV, rfl, hfz, hnd⟩ := hW
  have hA : DataW.TrodAll enc Tryz.prog W 0 (fun _ => true) true Tryz.f5.params.toList args.toList ds p := hA0
  rw [Tryz.params5] at hA hval
  obtain ⟨v0, vs0, d0, ds0, p0, q0, hargs, rfl, rfl, h0, r0⟩ := trodAll_cons hA
  obtain ⟨v1, vs1, d1, ds1, p1, q1, rfl, rfl, rfl, h1, r1⟩ := trodAll_cons r0
  obtain ⟨rfl, rfl, rfl⟩ := trodAll_nil r1
  obtain rfl : args = #[v0, v1] := by cases args; simp_all
  obtain ⟨rfl, rfl⟩ := trodVars_none hV
  have k0 := h0
  have lt0 : ∀ x ∈ p0, x.block < W.heap.size := by obtain ⟨m, hm⟩ := k0; exact DataW.trod_lt m _ _ _ hm
  obtain ⟨o0, n0, c0, rfl⟩ := okWide_slice Tryz.underlying35 (hval 0 35 v0 rfl rfl)
  obtain ⟨x0, W0⟩ := open_words h0
  have k1 := h1
  have lt1 : ∀ x ∈ p1, x.block < W.heap.size := by obtain ⟨m, hm⟩ := k1; exact DataW.trod_lt m _ _ _ hm
  obtain ⟨s1, rfl, _, _, z1⟩ := open_string Tryz.underlying9 (hval 1 9 v1 rfl rfl) h1
  have AW : AH W := of_laid_ah hL hsh
  clear hA0 hval0
  refine (walk W AW o0 n0 c0 x0 W0 s1 z1).mono fun e W' ⟨he, hg⟩ => ?_
  subst he
  have bel : Below W.heap.size W W' := ⟨hg.os, hg.tape, hg.output, hg.size, fun k hk => hg.block k hk (by simp)⟩
  exact ⟨_, rfl, _, _, _, [], _, [], hW', trodAll_mk1 (shut_bool Tryz.underlying4 _), (trodAll_cons_mk (Below.trod laidOut (by kernel_rfl) (of_decide_eq_true (by kernel_rfl)) k0 bel lt0) (trodAll_cons_mk (Below.trod laidOut (by kernel_rfl) (of_decide_eq_true (by kernel_rfl)) k1 bel lt1) trodAll_mk0)), rfl, bel.frame _, fun h => by cases h⟩

theorem over : Rows.AsmListsSaid :=
  OpenClaim.holds_of_wide 5 Tryz.f5 rfl rfl rfl rfl rfl rfl rfl ⟨rfl, rfl, rfl, rfl, rfl⟩ rfl rfl rfl rfl rfl (by kernel_rfl) Tryz.func5 (by kernel_rfl)
    (of_decide_eq_true (by kernel_rfl)) (by unfold Func.isWrapper; first | (rw [if_pos (by decide +kernel)]; kernel_rfl) | (rw [if_neg (by decide +kernel)]; exact ⟨rfl, rfl⟩))
    (fun os started H enc _ => lifted os started H enc)

theorem proved : Rows.AsmListsCardSaid :=
  Claim7.holds_tied_plain_at .later [] [.data, .data, .data, .data, .wider, .wider, .wider, .wider, .wider, .wider, .wider, .wider, .wider, .wider, .widerDeep, .sentinel, .sentinel, .data, .data, .pinned] true (true, "1c984e226b10c7b2f957a292c865e02521e7a4b439fb36d058f03fafe4b224e4") true
    over (fun _ h => by cases h) (by kernel_rfl) (fun _ h => by cases h) asmLists_row_tie rfl ⟨rfl, rfl⟩ (by kernel_rfl) rfl
    (fun g gn hf hfn => by
      obtain rfl : g = 5 := Option.some.inj (hf.symm.trans (by kernel_rfl))
      obtain rfl : gn = Tryz.f5 := (Option.some.inj (Tryz.func5.symm.trans hfn)).symm
      exact ⟨by kernel_rfl, fun j t ht => by
        rw [Tryz.params5] at ht
        have hm : t ∈ [35, 9] := by simpa using Array.mem_of_getElem? ht
        have hall : ([35, 9].all fun k => !Tryz.prog.wantsStandIn k) = true := by kernel_rfl
        exact (show Tryz.prog.wantsStandIn t = false by simpa using List.all_eq_true.1 hall t hm)⟩)
    (by kernel_rfl)
end Go.Proofs.YtjeogojgabfbiaaGreatDoor.asmLists

namespace Go.Proofs.YtjeogojgabfbiaaGreatDoor
theorem asmLists_holds : Rows.AsmListsCardSaid := asmLists.proved
#print axioms asmLists_holds
end Go.Proofs.YtjeogojgabfbiaaGreatDoor
