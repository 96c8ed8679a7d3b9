/-
  For every two texts, the law StoreNone answers true: a store that nobody made has no files and takes none; no conditions.
-/
import Derived.Test.YtaekljpijnkjoaaDoorCards
import Derived.Test.YtaekljpijnkjoaaDoorTie
import Derived.Test.YtaekljpijnkjoaaDoorStarg
import Derived.Test.YtaekljpijnkjoaaDoorStlaid
import Derived.WalkKit
import Derived.ProofKit
import Derived.Below
import Derived.SevenTiedAt
import Derived.Test.YtaekljpijnkjoaaDoorSn4
namespace Go.Proofs.YtaekljpijnkjoaaDoor.storeNone
open Go.ChangeShapes Go.WideShapes Go.ChangeAt Go.RowKit Go.ChangeMaps Go.Proofs.YtaekljpijnkjoaaDoor.St Go.Proofs.YtaekljpijnkjoaaDoor.Tx
set_option linter.unusedVariables false
set_option linter.unusedSimpArgs false
set_option maxRecDepth 100000

set_option maxHeartbeats 1000000 in

theorem walk (w : World) (s0 : List UInt8) (z0 : s0.length ≤ maxLen) (s1 : List UInt8) (z1 : s1.length ≤ maxLen) :
    Calls Tryd.prog 4 #[.string (bs s0), .string (bs s1)] w fun e w' => e = .returned (.bool true) ∧ w.grownBy w' none := by
  have b0' : (⟨#[]⟩ : ByteArray) = bs [] := rfl
  have HZ0 := hide z0
  clear z0 z1
  go_enter Tryd.func4, Tryd.ntmps4
  go_wp2_with (first | (go_at_call 10; refine (St.get_nil _ s0 HZ0.out).mono ?_; rintro e w1 ⟨rfl, hg⟩; have G1 := hide hg; clear hg) | (go_at_call 8; refine (St.put_nil _ _ _).mono ?_; rintro e w' ⟨rfl, h⟩; replace h := h.symm; subst h) | (go_at_call 12; refine (St.del_nil _ s0 HZ0.out).mono ?_; rintro e w2 ⟨rfl, hg⟩; have G2 := hide (grown_trans G1.out hg); clear hg) | (go_at_call 18; refine (names_nil _).mono ?_; rintro e w3 ⟨rfl, hg⟩; have G3 := hide (grown_trans G2.out hg); clear hg) | (go_at_call 15; refine (fork_nil _).mono ?_; rintro e w' ⟨rfl, h⟩; replace h := h.symm; subst h) | (go_at_call 19; refine (wakes_any _).mono ?_; rintro e w4 ⟨rfl, hg⟩; have G4 := hide (grown_trans G3.out hg); clear hg))
  go_ret
  exact ⟨rfl, G4.out⟩

set_option maxRecDepth 100000 in
theorem lifted (os : Os) (started : os.Started) (H : Type) (enc : TypeId × Value → H) :
    ReturnsInHanded {} Tryd.checked os 4 .any (fun w args => (Rows.storeNoneSpec.pre enc Tryd.prog Tryd.f4 [] false w args ∧ laidMetH Tryd.prog laidL w) ∧ sizedMet enc Tryd.prog Tryd.f4 (OpenSpec.ofChange Rows.storeNoneSpec) false w args)
      (Rows.storeNoneSpec.post enc Tryd.prog Tryd.f4 false true false false) := by
  refine handed_and_shaped (C := Tryd.checked) (X := fun w _ => laidMetH Tryd.prog laidL w) (fun _ _ _ hh h => h.of_heap hh) own started (by kernel_rfl) Tryd.func4
    (ChangeSpec.witness_shaped (enc := enc) (C := Tryd.checked) (os := os) (X := fun w _ => laidMetH Tryd.prog laidL w) false (World.laidAll Tryd.prog os laidL) #[.string ⟨#[]⟩, .string ⟨#[]⟩] 8 (World.laidAll_os _ _ _) (sshape os) (by kernel_rfl) (by kernel_rfl) (by kernel_rfl) (smet os _)) ?_
  intro W base args ds gs before hval0 hW hL hsh
  have hval : ∀ (j : Nat) t v, Tryd.f4.params[j]? = some t → args[j]? = some v → Value.okWide Tryd.prog W .any base t v := hval0
  have hW' := hW
  obtain ⟨p, q, hA0, hV, rfl, hfz, hnd⟩ := hW
  have hA : DataW.TrodAll enc Tryd.prog W 0 (fun _ => true) true Tryd.f4.params.toList args.toList ds p := hA0
  rw [Tryd.params4] at hA hval
  obtain ⟨v0, vs0, d0, ds0, p0, q0, hargs, rfl, rfl, h0, r0⟩ := trodAll_cons hA
  obtain ⟨v1, vs1, d1, ds1, p1, q1, rfl, rfl, rfl, h1, r1⟩ := trodAll_cons r0
  obtain ⟨rfl, rfl, rfl⟩ := trodAll_nil r1
  obtain rfl : args = #[v0, v1] := by cases args; simp_all
  obtain ⟨rfl, rfl⟩ := trodVars_none hV
  have k0 := h0
  have lt0 : ∀ x ∈ p0, x.block < W.heap.size := by obtain ⟨m, hm⟩ := k0; exact DataW.trod_lt m _ _ _ hm
  obtain ⟨s0, rfl, z0⟩ := open_text (hval 0 9 v0 rfl rfl) h0
  have k1 := h1
  have lt1 : ∀ x ∈ p1, x.block < W.heap.size := by obtain ⟨m, hm⟩ := k1; exact DataW.trod_lt m _ _ _ hm
  obtain ⟨s1, rfl, z1⟩ := open_text (hval 1 9 v1 rfl rfl) h1
  clear hA0 hval0
  refine (walk W s0 z0 s1 z1).mono fun e W' ⟨he, hg⟩ => ?_
  subst he
  have bel : Below W.heap.size W W' := ⟨hg.os, hg.tape, hg.output, hg.size, fun k hk => hg.block k hk (by simp)⟩
  exact ⟨_, rfl, _, _, _, [], _, [], hW', trodAll_mk1 (shut_bool Tryd.underlying4 _), (trodAll_cons_mk (Below.trod laidOut (by kernel_rfl) (of_decide_eq_true (by kernel_rfl)) k0 bel lt0) (trodAll_cons_mk (Below.trod laidOut (by kernel_rfl) (of_decide_eq_true (by kernel_rfl)) k1 bel lt1) trodAll_mk0)), rfl, bel.frame _, fun h => by cases h⟩

theorem over : Rows.StoreNoneSaid :=
  OpenClaim.holds_of_wide 4 Tryd.f4 rfl rfl rfl rfl rfl rfl rfl ⟨rfl, rfl, rfl, rfl, rfl⟩ rfl rfl rfl rfl rfl (by kernel_rfl) Tryd.func4 (by kernel_rfl)
    (of_decide_eq_true (by kernel_rfl)) (by unfold Func.isWrapper; first | (rw [if_pos (by decide +kernel)]; kernel_rfl) | (rw [if_neg (by decide +kernel)]; exact ⟨rfl, rfl⟩))
    (fun os started H enc _ => lifted os started H enc)

theorem proved : Rows.StoreNoneCardSaid :=
  Claim7.holds_tied_plain_at .later [] [.data, .pinned] true (true, "f34cf41fdc5622416673053c98f882e136cdaf09cb127f09f3aaf0ad4432a0d5") false
    over (fun _ h => by cases h) (by kernel_rfl) (fun _ h => by cases h) storeNone_row_tie rfl ⟨rfl, rfl⟩ (by kernel_rfl) rfl
    (fun g gn hf hfn => by
      obtain rfl : g = 4 := Option.some.inj (hf.symm.trans (by kernel_rfl))
      obtain rfl : gn = Tryd.f4 := (Option.some.inj (Tryd.func4.symm.trans hfn)).symm
      exact ⟨by kernel_rfl, fun j t ht => by
        rw [Tryd.params4] at ht
        have hm : t ∈ [9, 9] := by simpa using Array.mem_of_getElem? ht
        have hall : ([9, 9].all fun k => !Tryd.prog.wantsStandIn k) = true := by kernel_rfl
        exact (show Tryd.prog.wantsStandIn t = false by simpa using List.all_eq_true.1 hall t hm)⟩)
    (by kernel_rfl)
end Go.Proofs.YtaekljpijnkjoaaDoor.storeNone

namespace Go.Proofs.YtaekljpijnkjoaaDoor
theorem storeNone_holds : Rows.StoreNoneCardSaid := storeNone.proved
#print axioms storeNone_holds
end Go.Proofs.YtaekljpijnkjoaaDoor
