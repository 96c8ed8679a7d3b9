/-
  For every list of words, every start, every text and every list of fuels: package cpu's machine and the document's own, made of them and run in these pieces, tell the same of every Run, and stand alike behind them: registers, place and memory. The condition: package risc's tables are as the program's text lays them (the card ties them).
-/
import Derived.Test.YtjneaphlghfbhaaGreatDoorCards
import Derived.Test.YtjneaphlghfbhaaGreatDoorTie
import Derived.Test.YtjneaphlghfbhaaGreatDoorCargs
import Derived.SevenTiedAt
import Derived.Below
import Derived.Test.YtjneaphlghfbhaaGreatDoorQall
namespace Go.Proofs.YtjneaphlghfbhaaGreatDoor.cpuRuns
open Go.ChangeShapes Go.WideShapes Go.ChangeAt Go.RowKit Go.Joins Go.ChangeMaps Go.Proofs.YtjneaphlghfbhaaGreatDoor.Bits Go.Proofs.YtjneaphlghfbhaaGreatDoor.Gw Go.Proofs.YtjneaphlghfbhaaGreatDoor.Mem Go.Proofs.YtjneaphlghfbhaaGreatDoor.Cpu
open Go.Proofs.YtjneaphlghfbhaaGreatDoor.Risc (Laid ins own laid11 of_laid door_met open_ins)
set_option linter.unusedVariables false

open Go.Proofs.YtjneaphlghfbhaaGreatDoor.Qpu

theorem walk (w : World) (L : Laid w) (o0 : Option Addr) (n0 c0 : Nat) (x0 : List Int) (W0 : Wl w o0 n0 c0 x0) (st : Int) (s1 : ByteArray) (o1 : Option Addr) (n1 c1 : Nat) (x1 : List Int) (ws : (Lit.int .i64 st).wf = true) (z1 : s1.size ≤ maxLen) (Y1 : Fl w o1 n1 x1) :
    Calls Tryz.prog 3 #[.slice o0 n0 c0, .agg #[.int .i64 st, .string s1, .slice o1 n1 c1]] w fun e w' => e = .returned (.bool true) ∧ w.grownBy w' none := by
  exact runs_walk w L o0 n0 c0 x0 W0 st s1 o1 n1 c1 x1 z1 Y1

set_option maxRecDepth 100000 in
theorem lifted (os : Os) (started : os.Started) (H : Type) (enc : TypeId × Value → H) :
    ReturnsInHanded {} Tryz.checked os 3 .any (fun w args => (Rows.cpuRunsSpec.pre enc Tryz.prog Tryz.f3 [] false w args ∧ laidMetH Tryz.prog laid11 w) ∧ sizedMet enc Tryz.prog Tryz.f3 (OpenSpec.ofChange Rows.cpuRunsSpec) false w args)
      (Rows.cpuRunsSpec.post enc Tryz.prog Tryz.f3 false true false false) := by
  refine returnsInHanded_of_change_and (C := Tryz.checked) (X := fun w _ => laidMetH Tryz.prog laid11 w) (fun _ _ _ hh h => h.of_heap hh) own started (by kernel_rfl) Tryz.func3
    (ChangeSpec.witness_shaped (enc := enc) (C := Tryz.checked) (os := os) (X := fun w _ => laidMetH Tryz.prog laid11 w) false (World.doorLaid Tryz.prog 400 os) #[.slice none 0 0, .agg #[.int .i64 0, .string ⟨#[]⟩, .slice none 0 0]] 8 rfl (World.shaped_of_RefB (by kernel_rfl) (by kernel_rfl)) (by kernel_rfl) (by kernel_rfl) (by kernel_rfl) (door_met os _)) ?_
  intro W base args ds gs before hval0 hW _ _ hL _
  have hval : ∀ (j : Nat) t v, Tryz.f3.params[j]? = some t → args[j]? = some v → Value.okWide Tryz.prog W .any base t v := hval0
  have hW' := hW
  obtain ⟨p, q, hA0, hV, rfl, hfz, hnd⟩ := hW
  have hA : DataW.TrodAll enc Tryz.prog W 0 (fun _ => true) true Tryz.f3.params.toList args.toList ds p := hA0
  rw [Tryz.params3] at hA hval
  obtain ⟨v0, vs0, d0, ds0, p0, q0, hargs, rfl, rfl, h0, r0⟩ := trodAll_cons hA
  obtain ⟨v1, vs1, d1, ds1, p1, q1, rfl, rfl, rfl, h1, r1⟩ := trodAll_cons r0
  obtain ⟨rfl, rfl, rfl⟩ := trodAll_nil r1
  obtain rfl : args = #[v0, v1] := by cases args; simp_all
  obtain ⟨rfl, rfl⟩ := trodVars_none hV
  have k0 := h0
  have lt0 : ∀ x ∈ p0, x.block < W.heap.size := by obtain ⟨m, hm⟩ := k0; exact DataW.trod_lt m _ _ _ hm
  obtain ⟨o0, n0, c0, rfl⟩ := okWide_slice Tryz.underlying22 (hval 0 22 v0 rfl rfl)
  obtain ⟨x0, W0⟩ := open_words h0
  have k1 := h1
  have lt1 : ∀ x ∈ p1, x.block < W.heap.size := by obtain ⟨m, hm⟩ := k1; exact DataW.trod_lt m _ _ _ hm
  obtain ⟨st, s1, o1, n1, c1, x1, rfl, ws, z1, Y1⟩ := open_play (hval 1 25 v1 rfl rfl) h1
  have LW : Laid W := of_laid hL
  clear hA0 hval0
  refine (walk W LW o0 n0 c0 x0 W0 st s1 o1 n1 c1 x1 ws z1 Y1).mono fun e W' ⟨he, hg⟩ => ?_
  subst he
  have bel : Below W.heap.size W W' := below_grown hg
  exact ⟨_, rfl, _, _, _, [], _, [], hW', trodAll_mk1 (shut_bool Tryz.underlying4 _), (trodAll_cons_mk (Below.trod laidOut (by kernel_rfl) (of_decide_eq_true (by kernel_rfl)) k0 bel lt0) (trodAll_cons_mk (Below.trod laidOut (by kernel_rfl) (of_decide_eq_true (by kernel_rfl)) k1 bel lt1) trodAll_mk0)), rfl, bel.frame _, fun h => by cases h⟩

theorem over : Rows.CpuRunsSaid :=
  OpenClaim.holds_of_wide 3 Tryz.f3 rfl rfl rfl rfl rfl rfl rfl ⟨rfl, rfl, rfl, rfl, rfl⟩ rfl rfl rfl rfl rfl (by kernel_rfl) Tryz.func3 (by kernel_rfl)
    (of_decide_eq_true (by kernel_rfl)) (by unfold Func.isWrapper; first | (rw [if_pos (by decide +kernel)]; kernel_rfl) | (rw [if_neg (by decide +kernel)]; exact ⟨rfl, rfl⟩))
    (fun os started H enc _ => lifted os started H enc)

theorem proved : Rows.CpuRunsCardSaid :=
  Claim7.holds_tied_plain_at .later [] [.wider, .wider, .wider, .wider, .wider, .wider, .wider, .wider, .wider, .wider, .widerDeep] true (true, "e3a6c6977cc12e2e1b1ea58b4b2b808d5e8b39541fd35e5ea900eb2ac92bd4f8") false
    over (fun _ h => by cases h) (by kernel_rfl) (fun _ h => by cases h) cpuRuns_row_tie rfl ⟨rfl, rfl⟩ (by kernel_rfl) rfl
    (fun g gn hf hfn => by
      obtain rfl : g = 3 := Option.some.inj (hf.symm.trans (by kernel_rfl))
      obtain rfl : gn = Tryz.f3 := (Option.some.inj (Tryz.func3.symm.trans hfn)).symm
      exact ⟨by kernel_rfl, fun j t ht => by
        rw [Tryz.params3] at ht
        have hm : t ∈ [22, 25] := by simpa using Array.mem_of_getElem? ht
        have hall : ([22, 25].all fun k => !Tryz.prog.wantsStandIn k) = true := by kernel_rfl
        exact (show Tryz.prog.wantsStandIn t = false by simpa using List.all_eq_true.1 hall t hm)⟩)
    (by kernel_rfl)
end Go.Proofs.YtjneaphlghfbhaaGreatDoor.cpuRuns

namespace Go.Proofs.YtjneaphlghfbhaaGreatDoor
theorem cpuRuns_holds : Rows.CpuRunsCardSaid := cpuRuns.proved
#print axioms cpuRuns_holds
end Go.Proofs.YtjneaphlghfbhaaGreatDoor
