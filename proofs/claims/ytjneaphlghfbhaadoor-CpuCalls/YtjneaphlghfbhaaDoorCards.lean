/-
  DERIVED. GIVEN WITH THE SEED: THE CARDS: each row of YtjneaphlghfbhaaDoorRows.lean that lists a variable, with what it lists TIED to the program's text (the seventh form; the later family's looks); each row that meets fmt, with fmt's text TOLD by the authors' own Lean function (tested against real Go, not proved from fmt's source: count such statements apart). THE CARD IS WHAT COUNTS. Prove the row's statement (the work); the ties are given (YtjneaphlghfbhaaDoorTie.lean); close each card by the builder's one call (the guide's Derived/Test/ToyasCard.lean, 'card_holds'). Laid BY PROGRAM, IN A SANDBOX (cutbox-door.mjs). By AI agents, Wed Nov 11 2026. No macro, syntax, notation, axiom, sorry.
-/
import Derived.Test.YtjneaphlghfbhaaDoorRows
import GoSem.ClaimSeven
namespace Go.Proofs.YtjneaphlghfbhaaDoor
namespace Rows

/-- THE TIED CARD OF 'spinetlaw05.CpuPieces'. -/
def cpuPiecesCard : Claim7 := { stood := { row := cpuPiecesRow, standIns := [], harness := (true, "c4dfb6290b940ead2bf68817f3a06c85968566e8d89d3da15fd791981c1f3276"), looks := false }, kinds := [], alts := [], laidByText := true, laidKinds := [.wider, .wider, .wider, .wider, .wider, .wider, .wider, .wider, .wider, .wider, .widerDeep], laidTests := true, laidLooks := .later }
def CpuPiecesCardSaid : Prop := Claim7.holds Tryd.pinned (.plain (OpenSpec.ofChange cpuPiecesSpec)) cpuPiecesCard

/-- THE TIED CARD OF 'spinetlaw05.CpuNone'. -/
def cpuNoneCard : Claim7 := { stood := { row := cpuNoneRow, standIns := [], harness := (true, "c4dfb6290b940ead2bf68817f3a06c85968566e8d89d3da15fd791981c1f3276"), looks := false }, kinds := [], alts := [], laidByText := true, laidKinds := [.wider, .wider, .wider, .wider, .wider, .wider, .wider, .wider, .wider, .wider, .widerDeep], laidTests := true, laidLooks := .later }
def CpuNoneCardSaid : Prop := Claim7.holds Tryd.pinned (.plain (OpenSpec.ofChange cpuNoneSpec)) cpuNoneCard

/-- THE TIED CARD OF 'spinetlaw05.CpuLoads'. -/
def cpuLoadsCard : Claim7 := { stood := { row := cpuLoadsRow, standIns := [], harness := (true, "c4dfb6290b940ead2bf68817f3a06c85968566e8d89d3da15fd791981c1f3276"), looks := false }, kinds := [], alts := [], laidByText := true, laidKinds := [.wider, .wider, .wider, .wider, .wider, .wider, .wider, .wider, .wider, .wider, .widerDeep], laidTests := true, laidLooks := .later }
def CpuLoadsCardSaid : Prop := Claim7.holds Tryd.pinned (.plain (OpenSpec.ofChange cpuLoadsSpec)) cpuLoadsCard

/-- THE TIED CARD OF 'spinetlaw05.CpuCalls'. -/
def cpuCallsCard : Claim7 := { stood := { row := cpuCallsRow, standIns := [], harness := (true, "c4dfb6290b940ead2bf68817f3a06c85968566e8d89d3da15fd791981c1f3276"), looks := false }, kinds := [], alts := [], laidByText := true, laidKinds := [.wider, .wider, .wider, .wider, .wider, .wider, .wider, .wider, .wider, .wider, .widerDeep], laidTests := true, laidLooks := .later }
def CpuCallsCardSaid : Prop := Claim7.holds Tryd.pinned (.plain (OpenSpec.ofChange cpuCallsSpec)) cpuCallsCard

/-- THE SECOND FORM's CARD OF 'spinetlaw05.CpuPieces'. -/
def cpuPiecesUptoCard : Claim7 := { stood := { row := cpuPiecesUptoRow, standIns := [], harness := (true, "c4dfb6290b940ead2bf68817f3a06c85968566e8d89d3da15fd791981c1f3276"), looks := false }, kinds := [], alts := [], laidByText := true, laidKinds := [.wider, .wider, .wider, .wider, .wider, .wider, .wider, .wider, .wider, .wider, .widerDeep], laidTests := true, laidLooks := .later }
def CpuPiecesUptoCardSaid : Prop := Claim7.holds Tryd.pinned (.plain (OpenSpec.upto cpuPiecesSpec)) cpuPiecesUptoCard

/-- THE SECOND FORM's CARD OF 'spinetlaw05.CpuNone'. -/
def cpuNoneUptoCard : Claim7 := { stood := { row := cpuNoneUptoRow, standIns := [], harness := (true, "c4dfb6290b940ead2bf68817f3a06c85968566e8d89d3da15fd791981c1f3276"), looks := false }, kinds := [], alts := [], laidByText := true, laidKinds := [.wider, .wider, .wider, .wider, .wider, .wider, .wider, .wider, .wider, .wider, .widerDeep], laidTests := true, laidLooks := .later }
def CpuNoneUptoCardSaid : Prop := Claim7.holds Tryd.pinned (.plain (OpenSpec.upto cpuNoneSpec)) cpuNoneUptoCard

/-- THE SECOND FORM's CARD OF 'spinetlaw05.CpuLoads'. -/
def cpuLoadsUptoCard : Claim7 := { stood := { row := cpuLoadsUptoRow, standIns := [], harness := (true, "c4dfb6290b940ead2bf68817f3a06c85968566e8d89d3da15fd791981c1f3276"), looks := false }, kinds := [], alts := [], laidByText := true, laidKinds := [.wider, .wider, .wider, .wider, .wider, .wider, .wider, .wider, .wider, .wider, .widerDeep], laidTests := true, laidLooks := .later }
def CpuLoadsUptoCardSaid : Prop := Claim7.holds Tryd.pinned (.plain (OpenSpec.upto cpuLoadsSpec)) cpuLoadsUptoCard

/-- THE SECOND FORM's CARD OF 'spinetlaw05.CpuCalls'. -/
def cpuCallsUptoCard : Claim7 := { stood := { row := cpuCallsUptoRow, standIns := [], harness := (true, "c4dfb6290b940ead2bf68817f3a06c85968566e8d89d3da15fd791981c1f3276"), looks := false }, kinds := [], alts := [], laidByText := true, laidKinds := [.wider, .wider, .wider, .wider, .wider, .wider, .wider, .wider, .wider, .wider, .widerDeep], laidTests := true, laidLooks := .later }
def CpuCallsUptoCardSaid : Prop := Claim7.holds Tryd.pinned (.plain (OpenSpec.upto cpuCallsSpec)) cpuCallsUptoCard
end Rows
end Go.Proofs.YtjneaphlghfbhaaDoor
