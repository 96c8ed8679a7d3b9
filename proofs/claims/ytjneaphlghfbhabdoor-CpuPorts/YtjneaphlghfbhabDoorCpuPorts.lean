/-
  For every text: a loop over the ports puts it out, byte by byte, and halts behind it. The condition: package risc's tables are as the program's text lays them (the card ties them).
-/
import Derived.Test.YtjneaphlghfbhabDoorCards
import Derived.Test.YtjneaphlghfbhabDoorTie
import Derived.Test.YtjneaphlghfbhabDoorCargs
import Derived.SevenTiedAt
import Derived.Below
import Derived.Test.YtjneaphlghfbhabDoorWprt
namespace Go.Proofs.YtjneaphlghfbhabDoor.cpuPorts
open Go.ChangeShapes Go.WideShapes Go.ChangeAt Go.RowKit Go.Joins Go.ChangeMaps Go.Proofs.YtjneaphlghfbhabDoor.Bits Go.Proofs.YtjneaphlghfbhabDoor.Gw Go.Proofs.YtjneaphlghfbhabDoor.Mem Go.Proofs.YtjneaphlghfbhabDoor.Cpu
open Go.Proofs.YtjneaphlghfbhabDoor.Risc (Laid ins own laid11 of_laid door_met open_ins)
set_option linter.unusedVariables false


theorem walk (w : World) (L : Laid w) (s0 : ByteArray) (z0 : s0.size ≤ maxLen) :
    Calls Tryd.prog 3 #[.string s0] w fun e w' => e = .returned (.bool true) ∧ w.grownBy w' none := by
  exact ports_walk w L s0 z0

set_option maxRecDepth 100000 in
theorem lifted (os : Os) (started : os.Started) (H : Type) (enc : TypeId × Value → H) :
    ReturnsInHanded {} Tryd.checked os 3 .any (fun w args => (Rows.cpuPortsSpec.pre enc Tryd.prog Tryd.f3 [] false w args ∧ laidMetH Tryd.prog laid11 w) ∧ sizedMet enc Tryd.prog Tryd.f3 (OpenSpec.ofChange Rows.cpuPortsSpec) false w args)
      (Rows.cpuPortsSpec.post enc Tryd.prog Tryd.f3 false true false false) := by
  refine returnsInHanded_of_change_and (C := Tryd.checked) (X := fun w _ => laidMetH Tryd.prog laid11 w) (fun _ _ _ hh h => h.of_heap hh) own started (by kernel_rfl) Tryd.func3
    (ChangeSpec.witness_shaped (enc := enc) (C := Tryd.checked) (os := os) (X := fun w _ => laidMetH Tryd.prog laid11 w) false (World.doorLaid Tryd.prog 400 os) #[.string ⟨#[]⟩] 8 rfl (World.shaped_of_RefB (by kernel_rfl) (by kernel_rfl)) (by kernel_rfl) (by kernel_rfl) (by kernel_rfl) (door_met os _)) ?_
  intro W base args ds gs before hval0 hW _ _ hL _
  have hval : ∀ (j : Nat) t v, Tryd.f3.params[j]? = some t → args[j]? = some v → Value.okWide Tryd.prog W .any base t v := hval0
  have hW' := hW
  obtain ⟨p, q, hA0, hV, rfl, hfz, hnd⟩ := hW
  have hA : DataW.TrodAll enc Tryd.prog W 0 (fun _ => true) true Tryd.f3.params.toList args.toList ds p := hA0
  rw [Tryd.params3] at hA hval
  obtain ⟨v0, vs0, d0, ds0, p0, q0, hargs, rfl, rfl, h0, r0⟩ := trodAll_cons hA
  obtain ⟨rfl, rfl, rfl⟩ := trodAll_nil r0
  obtain rfl : args = #[v0] := by cases args; simp_all
  obtain ⟨rfl, rfl⟩ := trodVars_none hV
  have k0 := h0
  have lt0 : ∀ x ∈ p0, x.block < W.heap.size := by obtain ⟨m, hm⟩ := k0; exact DataW.trod_lt m _ _ _ hm
  obtain ⟨s0, rfl, _, _, z0⟩ := open_string Tryd.underlying9 (hval 0 9 v0 rfl rfl) h0
  have LW : Laid W := of_laid hL
  clear hA0 hval0
  refine (walk W LW s0 z0).mono fun e W' ⟨he, hg⟩ => ?_
  subst he
  have bel : Below W.heap.size W W' := below_grown hg
  exact ⟨_, rfl, _, _, _, [], _, [], hW', trodAll_mk1 (shut_bool Tryd.underlying4 _), (trodAll_cons_mk (Below.trod laidOut (by kernel_rfl) (of_decide_eq_true (by kernel_rfl)) k0 bel lt0) trodAll_mk0), rfl, bel.frame _, fun h => by cases h⟩

theorem over : Rows.CpuPortsSaid :=
  OpenClaim.holds_of_wide 3 Tryd.f3 rfl rfl rfl rfl rfl rfl rfl ⟨rfl, rfl, rfl, rfl, rfl⟩ rfl rfl rfl rfl rfl (by kernel_rfl) Tryd.func3 (by kernel_rfl)
    (of_decide_eq_true (by kernel_rfl)) (by unfold Func.isWrapper; first | (rw [if_pos (by decide +kernel)]; kernel_rfl) | (rw [if_neg (by decide +kernel)]; exact ⟨rfl, rfl⟩))
    (fun os started H enc _ => lifted os started H enc)

theorem proved : Rows.CpuPortsCardSaid :=
  Claim7.holds_tied_plain_at .later [] [.wider, .wider, .wider, .wider, .wider, .wider, .wider, .wider, .wider, .wider, .widerDeep] true (true, "924c5a06b618d75aa7512dae1352235acd0af1ae67bcaa856c6d3bb518171204") false
    over (fun _ h => by cases h) (by kernel_rfl) (fun _ h => by cases h) cpuPorts_row_tie rfl ⟨rfl, rfl⟩ (by kernel_rfl) rfl
    (fun g gn hf hfn => by
      obtain rfl : g = 3 := Option.some.inj (hf.symm.trans (by kernel_rfl))
      obtain rfl : gn = Tryd.f3 := (Option.some.inj (Tryd.func3.symm.trans hfn)).symm
      exact ⟨by kernel_rfl, fun j t ht => by
        rw [Tryd.params3] at ht
        have hm : t ∈ [9] := by simpa using Array.mem_of_getElem? ht
        have hall : ([9].all fun k => !Tryd.prog.wantsStandIn k) = true := by kernel_rfl
        exact (show Tryd.prog.wantsStandIn t = false by simpa using List.all_eq_true.1 hall t hm)⟩)
    (by kernel_rfl)
end Go.Proofs.YtjneaphlghfbhabDoor.cpuPorts

namespace Go.Proofs.YtjneaphlghfbhabDoor
theorem cpuPorts_holds : Rows.CpuPortsCardSaid := cpuPorts.proved
#print axioms cpuPorts_holds
end Go.Proofs.YtjneaphlghfbhabDoor
