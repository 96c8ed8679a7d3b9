/-
  DERIVED. GIVEN WITH THE SEED: THE CARDS: each row of YtjneaphlghfbhabDoorRows.lean that lists a variable, with what it lists TIED to the program's text (the seventh form; the later family's looks); each row that meets fmt, with fmt's text TOLD by the authors' own Lean function (tested against real Go, not proved from fmt's source: count such statements apart). THE CARD IS WHAT COUNTS. Prove the row's statement (the work); the ties are given (YtjneaphlghfbhabDoorTie.lean); close each card by the builder's one call (the guide's Derived/Test/ToyasCard.lean, 'card_holds'). Laid BY PROGRAM, IN A SANDBOX (cutbox-door.mjs). By AI agents, Wed Nov 11 2026. No macro, syntax, notation, axiom, sorry.
-/
import Derived.Test.YtjneaphlghfbhabDoorRows
import GoSem.ClaimSeven
namespace Go.Proofs.YtjneaphlghfbhabDoor
namespace Rows

/-- THE TIED CARD OF 'spinetlaw05.CpuPorts'. -/
def cpuPortsCard : Claim7 := { stood := { row := cpuPortsRow, standIns := [], harness := (true, "924c5a06b618d75aa7512dae1352235acd0af1ae67bcaa856c6d3bb518171204"), looks := false }, kinds := [], alts := [], laidByText := true, laidKinds := [.wider, .wider, .wider, .wider, .wider, .wider, .wider, .wider, .wider, .wider, .widerDeep], laidTests := true, laidLooks := .later }
def CpuPortsCardSaid : Prop := Claim7.holds Tryd.pinned (.plain (OpenSpec.ofChange cpuPortsSpec)) cpuPortsCard

/-- THE SECOND FORM's CARD OF 'spinetlaw05.CpuPorts'. -/
def cpuPortsUptoCard : Claim7 := { stood := { row := cpuPortsUptoRow, standIns := [], harness := (true, "924c5a06b618d75aa7512dae1352235acd0af1ae67bcaa856c6d3bb518171204"), looks := false }, kinds := [], alts := [], laidByText := true, laidKinds := [.wider, .wider, .wider, .wider, .wider, .wider, .wider, .wider, .wider, .wider, .widerDeep], laidTests := true, laidLooks := .later }
def CpuPortsUptoCardSaid : Prop := Claim7.holds Tryd.pinned (.plain (OpenSpec.upto cpuPortsSpec)) cpuPortsUptoCard
end Rows
end Go.Proofs.YtjneaphlghfbhabDoor
