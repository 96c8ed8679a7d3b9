/-
  For every value of an instruction, every list of words and every text: fourteen registers laid by two instructions each, and behind them that instruction's word twice: package cpu's machine and the document's own, run in three pieces, tell the same of every Run, and stand alike behind each: registers, place and memory. The condition: package risc's tables are as the program's text lays them (the card ties them).
-/
import Derived.Test.YtjneaphlghfbhaaGreatDoorCards
import Derived.Test.YtjneaphlghfbhaaGreatDoorTie
import Derived.Test.YtjneaphlghfbhaaGreatDoorCargs
import Derived.SevenTiedAt
import Derived.Below
import Derived.Test.YtjneaphlghfbhaaGreatDoorWstp
namespace Go.Proofs.YtjneaphlghfbhaaGreatDoor.cpuSteps
open Go.ChangeShapes Go.WideShapes Go.ChangeAt Go.RowKit Go.Joins Go.ChangeMaps Go.Proofs.YtjneaphlghfbhaaGreatDoor.Bits Go.Proofs.YtjneaphlghfbhaaGreatDoor.Gw Go.Proofs.YtjneaphlghfbhaaGreatDoor.Mem Go.Proofs.YtjneaphlghfbhaaGreatDoor.Cpu
open Go.Proofs.YtjneaphlghfbhaaGreatDoor.Risc (Laid ins own laid11 of_laid door_met open_ins)
set_option linter.unusedVariables false

open Go.Proofs.YtjneaphlghfbhaaGreatDoor.Qpu

theorem walk (w : World) (L : Laid w) (f : Int) (u v : Bool) (a b c op im : Int) (wf : (Lit.int .i64 f).wf = true) (wa : (Lit.int .i64 a).wf = true) (wb : (Lit.int .i64 b).wf = true) (wc : (Lit.int .i64 c).wf = true) (wo : (Lit.int .i64 op).wf = true) (wi : (Lit.int .i64 im).wf = true) (o1 : Option Addr) (n1 c1 : Nat) (x1 : List Int) (W1 : Wl w o1 n1 c1 x1) (s2 : ByteArray) (z2 : s2.size ≤ maxLen) :
    Calls Tryz.prog 4 #[ins f u v a b c op im, .slice o1 n1 c1, .string s2] w fun e w' => e = .returned (.bool true) ∧ w.grownBy w' none := by
  exact steps_walk w L f u v a b c op im o1 n1 c1 x1 W1 s2 z2

set_option maxRecDepth 100000 in
theorem lifted (os : Os) (started : os.Started) (H : Type) (enc : TypeId × Value → H) :
    ReturnsInHanded {} Tryz.checked os 4 .any (fun w args => (Rows.cpuStepsSpec.pre enc Tryz.prog Tryz.f4 [] false w args ∧ laidMetH Tryz.prog laid11 w) ∧ sizedMet enc Tryz.prog Tryz.f4 (OpenSpec.ofChange Rows.cpuStepsSpec) false w args)
      (Rows.cpuStepsSpec.post enc Tryz.prog Tryz.f4 false true false false) := by
  refine returnsInHanded_of_change_and (C := Tryz.checked) (X := fun w _ => laidMetH Tryz.prog laid11 w) (fun _ _ _ hh h => h.of_heap hh) own started (by kernel_rfl) Tryz.func4
    (ChangeSpec.witness_shaped (enc := enc) (C := Tryz.checked) (os := os) (X := fun w _ => laidMetH Tryz.prog laid11 w) false (World.doorLaid Tryz.prog 400 os) #[.agg #[.int .i64 0, .bool false, .bool false, .int .i64 0, .int .i64 0, .int .i64 0, .int .i64 0, .int .i64 0], .slice none 0 0, .string ⟨#[]⟩] 8 rfl (World.shaped_of_RefB (by kernel_rfl) (by kernel_rfl)) (by kernel_rfl) (by kernel_rfl) (by kernel_rfl) (door_met os _)) ?_
  intro W base args ds gs before hval0 hW _ _ hL _
  have hval : ∀ (j : Nat) t v, Tryz.f4.params[j]? = some t → args[j]? = some v → Value.okWide Tryz.prog W .any base t v := hval0
  have hW' := hW
  obtain ⟨p, q, hA0, hV, rfl, hfz, hnd⟩ := hW
  have hA : DataW.TrodAll enc Tryz.prog W 0 (fun _ => true) true Tryz.f4.params.toList args.toList ds p := hA0
  rw [Tryz.params4] at hA hval
  obtain ⟨v0, vs0, d0, ds0, p0, q0, hargs, rfl, rfl, h0, r0⟩ := trodAll_cons hA
  obtain ⟨v1, vs1, d1, ds1, p1, q1, rfl, rfl, rfl, h1, r1⟩ := trodAll_cons r0
  obtain ⟨v2, vs2, d2, ds2, p2, q2, rfl, rfl, rfl, h2, r2⟩ := trodAll_cons r1
  obtain ⟨rfl, rfl, rfl⟩ := trodAll_nil r2
  obtain rfl : args = #[v0, v1, v2] := by cases args; simp_all
  obtain ⟨rfl, rfl⟩ := trodVars_none hV
  have k0 := h0
  have lt0 : ∀ x ∈ p0, x.block < W.heap.size := by obtain ⟨m, hm⟩ := k0; exact DataW.trod_lt m _ _ _ hm
  obtain ⟨f, u, v, a, b, c, op, im, rfl, _, _, wf, wa, wb, wc, wo, wi⟩ := open_ins (hval 0 46 v0 rfl rfl) h0
  have k1 := h1
  have lt1 : ∀ x ∈ p1, x.block < W.heap.size := by obtain ⟨m, hm⟩ := k1; exact DataW.trod_lt m _ _ _ hm
  obtain ⟨o1, n1, c1, rfl⟩ := okWide_slice Tryz.underlying22 (hval 1 22 v1 rfl rfl)
  obtain ⟨x1, W1⟩ := open_words h1
  have k2 := h2
  have lt2 : ∀ x ∈ p2, x.block < W.heap.size := by obtain ⟨m, hm⟩ := k2; exact DataW.trod_lt m _ _ _ hm
  obtain ⟨s2, rfl, _, _, z2⟩ := open_string Tryz.underlying9 (hval 2 9 v2 rfl rfl) h2
  have LW : Laid W := of_laid hL
  clear hA0 hval0
  refine (walk W LW f u v a b c op im wf wa wb wc wo wi o1 n1 c1 x1 W1 s2 z2).mono fun e W' ⟨he, hg⟩ => ?_
  subst he
  have bel : Below W.heap.size W W' := below_grown hg
  exact ⟨_, rfl, _, _, _, [], _, [], hW', trodAll_mk1 (shut_bool Tryz.underlying4 _), (trodAll_cons_mk (Below.trod laidOut (by kernel_rfl) (of_decide_eq_true (by kernel_rfl)) k0 bel lt0) (trodAll_cons_mk (Below.trod laidOut (by kernel_rfl) (of_decide_eq_true (by kernel_rfl)) k1 bel lt1) (trodAll_cons_mk (Below.trod laidOut (by kernel_rfl) (of_decide_eq_true (by kernel_rfl)) k2 bel lt2) trodAll_mk0))), rfl, bel.frame _, fun h => by cases h⟩

theorem over : Rows.CpuStepsSaid :=
  OpenClaim.holds_of_wide 4 Tryz.f4 rfl rfl rfl rfl rfl rfl rfl ⟨rfl, rfl, rfl, rfl, rfl⟩ rfl rfl rfl rfl rfl (by kernel_rfl) Tryz.func4 (by kernel_rfl)
    (of_decide_eq_true (by kernel_rfl)) (by unfold Func.isWrapper; first | (rw [if_pos (by decide +kernel)]; kernel_rfl) | (rw [if_neg (by decide +kernel)]; exact ⟨rfl, rfl⟩))
    (fun os started H enc _ => lifted os started H enc)

theorem proved : Rows.CpuStepsCardSaid :=
  Claim7.holds_tied_plain_at .later [] [.wider, .wider, .wider, .wider, .wider, .wider, .wider, .wider, .wider, .wider, .widerDeep] true (true, "e3a6c6977cc12e2e1b1ea58b4b2b808d5e8b39541fd35e5ea900eb2ac92bd4f8") false
    over (fun _ h => by cases h) (by kernel_rfl) (fun _ h => by cases h) cpuSteps_row_tie rfl ⟨rfl, rfl⟩ (by kernel_rfl) rfl
    (fun g gn hf hfn => by
      obtain rfl : g = 4 := Option.some.inj (hf.symm.trans (by kernel_rfl))
      obtain rfl : gn = Tryz.f4 := (Option.some.inj (Tryz.func4.symm.trans hfn)).symm
      exact ⟨by kernel_rfl, fun j t ht => by
        rw [Tryz.params4] at ht
        have hm : t ∈ [46, 22, 9] := by simpa using Array.mem_of_getElem? ht
        have hall : ([46, 22, 9].all fun k => !Tryz.prog.wantsStandIn k) = true := by kernel_rfl
        exact (show Tryz.prog.wantsStandIn t = false by simpa using List.all_eq_true.1 hall t hm)⟩)
    (by kernel_rfl)
end Go.Proofs.YtjneaphlghfbhaaGreatDoor.cpuSteps

namespace Go.Proofs.YtjneaphlghfbhaaGreatDoor
theorem cpuSteps_holds : Rows.CpuStepsCardSaid := cpuSteps.proved
#print axioms cpuSteps_holds
end Go.Proofs.YtjneaphlghfbhaaGreatDoor
