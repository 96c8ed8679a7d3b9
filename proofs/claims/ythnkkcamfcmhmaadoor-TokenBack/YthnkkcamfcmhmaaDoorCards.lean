/-
  DERIVED. GIVEN WITH THE SEED: THE CARDS: each row of YthnkkcamfcmhmaaDoorRows.lean that lists a variable, with what it lists TIED to the program's text (the seventh form; the later family's looks); each row that meets fmt, with fmt's text TOLD by the authors' own Lean function (tested against real Go, not proved from fmt's source: count such statements apart). THE CARD IS WHAT COUNTS. Prove the row's statement (the work); the ties are given (YthnkkcamfcmhmaaDoorTie.lean); close each card by the builder's one call (the guide's Derived/Test/ToyasCard.lean, 'card_holds'). Laid BY PROGRAM, IN A SANDBOX (cutbox-door.mjs). By AI agents, Wed Nov 11 2026. No macro, syntax, notation, axiom, sorry.
-/
import Derived.Test.YthnkkcamfcmhmaaDoorRows
import GoSem.ClaimSeven
namespace Go.Proofs.YthnkkcamfcmhmaaDoor
namespace Rows

/-- THE TIED CARD OF 'spinetlaw09.TokenReads'. -/
def tokenReadsCard : Claim7 := { stood := { row := tokenReadsRow, standIns := [], harness := (true, "f932cb882a188dabbf7329d9c7a02e6f0c77711a882560f7fde944a53d548dda"), looks := true }, kinds := [], alts := [], laidByText := true, laidKinds := [.data, .data, .data, .sentinel, .sentinel, .listed, .data, .data], laidTests := true, laidLooks := .later }
def TokenReadsCardSaid : Prop := Claim7.holds Tryd.pinned (.plain (OpenSpec.ofChange tokenReadsSpec)) tokenReadsCard

/-- THE TIED CARD OF 'spinetlaw09.TokenBack'. -/
def tokenBackCard : Claim7 := { stood := { row := tokenBackRow, standIns := [], harness := (true, "f932cb882a188dabbf7329d9c7a02e6f0c77711a882560f7fde944a53d548dda"), looks := true }, kinds := [], alts := [], laidByText := true, laidKinds := [.data, .data, .data, .data, .sentinel, .sentinel, .listed, .data, .data, .pinned, .pinned], laidTests := true, laidLooks := .later }
def TokenBackCardSaid : Prop := Claim7.holds Tryd.pinned (.plain (OpenSpec.ofChange tokenBackSpec)) tokenBackCard

/-- THE TIED CARD OF 'spinetlaw09.TokenMost'. -/
def tokenMostCard : Claim7 := { stood := { row := tokenMostRow, standIns := [], harness := (true, "f932cb882a188dabbf7329d9c7a02e6f0c77711a882560f7fde944a53d548dda"), looks := true }, kinds := [], alts := [], laidByText := true, laidKinds := [.data, .data, .data, .sentinel, .sentinel, .listed, .data, .data], laidTests := true, laidLooks := .later }
def TokenMostCardSaid : Prop := Claim7.holds Tryd.pinned (.plain (OpenSpec.ofChange tokenMostSpec)) tokenMostCard

/-- THE TIED CARD OF 'spinetlaw09.TokenSpread'. -/
def tokenSpreadCard : Claim7 := { stood := { row := tokenSpreadRow, standIns := [], harness := (true, "f932cb882a188dabbf7329d9c7a02e6f0c77711a882560f7fde944a53d548dda"), looks := true }, kinds := [], alts := [], laidByText := true, laidKinds := [.data, .data, .data, .sentinel, .sentinel, .listed, .data, .data], laidTests := true, laidLooks := .later }
def TokenSpreadCardSaid : Prop := Claim7.holds Tryd.pinned (.plain (OpenSpec.ofChange tokenSpreadSpec)) tokenSpreadCard

/-- THE TIED CARD OF 'spinetlaw09.TokenJoins'. -/
def tokenJoinsCard : Claim7 := { stood := { row := tokenJoinsRow, standIns := [], harness := (true, "f932cb882a188dabbf7329d9c7a02e6f0c77711a882560f7fde944a53d548dda"), looks := true }, kinds := [], alts := [], laidByText := true, laidKinds := [.data, .data, .data, .sentinel, .sentinel, .listed, .data, .data], laidTests := true, laidLooks := .later }
def TokenJoinsCardSaid : Prop := Claim7.holds Tryd.pinned (.plain (OpenSpec.ofChange tokenJoinsSpec)) tokenJoinsCard

/-- THE SECOND FORM's CARD OF 'spinetlaw09.TokenReads'. -/
def tokenReadsUptoCard : Claim7 := { stood := { row := tokenReadsUptoRow, standIns := [], harness := (true, "f932cb882a188dabbf7329d9c7a02e6f0c77711a882560f7fde944a53d548dda"), looks := true }, kinds := [], alts := [], laidByText := true, laidKinds := [.data, .data, .data, .sentinel, .sentinel, .listed, .data, .data], laidTests := true, laidLooks := .later }
def TokenReadsUptoCardSaid : Prop := Claim7.holds Tryd.pinned (.plain (OpenSpec.upto tokenReadsSpec)) tokenReadsUptoCard

/-- THE SECOND FORM's CARD OF 'spinetlaw09.TokenBack'. -/
def tokenBackUptoCard : Claim7 := { stood := { row := tokenBackUptoRow, standIns := [], harness := (true, "f932cb882a188dabbf7329d9c7a02e6f0c77711a882560f7fde944a53d548dda"), looks := true }, kinds := [], alts := [], laidByText := true, laidKinds := [.data, .data, .data, .data, .sentinel, .sentinel, .listed, .data, .data, .pinned, .pinned], laidTests := true, laidLooks := .later }
def TokenBackUptoCardSaid : Prop := Claim7.holds Tryd.pinned (.plain (OpenSpec.upto tokenBackSpec)) tokenBackUptoCard

/-- THE SECOND FORM's CARD OF 'spinetlaw09.TokenMost'. -/
def tokenMostUptoCard : Claim7 := { stood := { row := tokenMostUptoRow, standIns := [], harness := (true, "f932cb882a188dabbf7329d9c7a02e6f0c77711a882560f7fde944a53d548dda"), looks := true }, kinds := [], alts := [], laidByText := true, laidKinds := [.data, .data, .data, .sentinel, .sentinel, .listed, .data, .data], laidTests := true, laidLooks := .later }
def TokenMostUptoCardSaid : Prop := Claim7.holds Tryd.pinned (.plain (OpenSpec.upto tokenMostSpec)) tokenMostUptoCard

/-- THE SECOND FORM's CARD OF 'spinetlaw09.TokenSpread'. -/
def tokenSpreadUptoCard : Claim7 := { stood := { row := tokenSpreadUptoRow, standIns := [], harness := (true, "f932cb882a188dabbf7329d9c7a02e6f0c77711a882560f7fde944a53d548dda"), looks := true }, kinds := [], alts := [], laidByText := true, laidKinds := [.data, .data, .data, .sentinel, .sentinel, .listed, .data, .data], laidTests := true, laidLooks := .later }
def TokenSpreadUptoCardSaid : Prop := Claim7.holds Tryd.pinned (.plain (OpenSpec.upto tokenSpreadSpec)) tokenSpreadUptoCard

/-- THE SECOND FORM's CARD OF 'spinetlaw09.TokenJoins'. -/
def tokenJoinsUptoCard : Claim7 := { stood := { row := tokenJoinsUptoRow, standIns := [], harness := (true, "f932cb882a188dabbf7329d9c7a02e6f0c77711a882560f7fde944a53d548dda"), looks := true }, kinds := [], alts := [], laidByText := true, laidKinds := [.data, .data, .data, .sentinel, .sentinel, .listed, .data, .data], laidTests := true, laidLooks := .later }
def TokenJoinsUptoCardSaid : Prop := Claim7.holds Tryd.pinned (.plain (OpenSpec.upto tokenJoinsSpec)) tokenJoinsUptoCard
end Rows
end Go.Proofs.YthnkkcamfcmhmaaDoor
