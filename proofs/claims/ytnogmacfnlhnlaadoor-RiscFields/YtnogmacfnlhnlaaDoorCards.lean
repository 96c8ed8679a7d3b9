/-
  DERIVED. GIVEN WITH THE SEED: THE CARDS: each row of YtnogmacfnlhnlaaDoorRows.lean that lists a variable, with what it lists TIED to the program's text (the seventh form; the later family's looks); each row that meets fmt, with fmt's text TOLD by the authors' own Lean function (tested against real Go, not proved from fmt's source: count such statements apart). THE CARD IS WHAT COUNTS. Prove the row's statement (the work); the ties are given (YtnogmacfnlhnlaaDoorTie.lean); close each card by the builder's one call (the guide's Derived/Test/ToyasCard.lean, 'card_holds'). Laid BY PROGRAM, IN A SANDBOX (cutbox-door.mjs). By AI agents, Wed Nov 11 2026. No macro, syntax, notation, axiom, sorry.
-/
import Derived.Test.YtnogmacfnlhnlaaDoorRows
import GoSem.ClaimSeven
namespace Go.Proofs.YtnogmacfnlhnlaaDoor
namespace Rows

/-- THE TIED CARD OF 'spinetlaw02.RiscEncodes'. -/
def riscEncodesCard : Claim7 := { stood := { row := riscEncodesRow, standIns := [], harness := (true, "b33bd3280ac425d1ec3ffb038d83b25e1c2b6a7dd2b2f06d4cebf8df8a113466"), looks := false }, kinds := [], alts := [], laidByText := true, laidKinds := [.wider, .wider, .wider, .wider, .wider, .wider, .wider, .wider, .wider, .wider, .widerDeep], laidTests := true, laidLooks := .later }
def RiscEncodesCardSaid : Prop := Claim7.holds Tryd.pinned (.plain (OpenSpec.ofChange riscEncodesSpec)) riscEncodesCard

/-- THE TIED CARD OF 'spinetlaw02.RiscDecodes'. -/
def riscDecodesCard : Claim7 := { stood := { row := riscDecodesRow, standIns := [], harness := (true, "b33bd3280ac425d1ec3ffb038d83b25e1c2b6a7dd2b2f06d4cebf8df8a113466"), looks := false }, kinds := [], alts := [], laidByText := true, laidKinds := [.wider, .wider, .wider, .wider, .wider, .wider, .wider, .wider, .wider, .wider, .widerDeep], laidTests := true, laidLooks := .later }
def RiscDecodesCardSaid : Prop := Claim7.holds Tryd.pinned (.plain (OpenSpec.ofChange riscDecodesSpec)) riscDecodesCard

/-- THE TIED CARD OF 'spinetlaw02.RiscBack'. -/
def riscBackCard : Claim7 := { stood := { row := riscBackRow, standIns := [], harness := (true, "b33bd3280ac425d1ec3ffb038d83b25e1c2b6a7dd2b2f06d4cebf8df8a113466"), looks := false }, kinds := [], alts := [], laidByText := true, laidKinds := [.wider, .wider, .wider, .wider, .wider, .wider, .wider, .wider, .wider, .wider, .widerDeep], laidTests := true, laidLooks := .later }
def RiscBackCardSaid : Prop := Claim7.holds Tryd.pinned (.plain (OpenSpec.ofChange riscBackSpec)) riscBackCard

/-- THE TIED CARD OF 'spinetlaw02.RiscJumps'. -/
def riscJumpsCard : Claim7 := { stood := { row := riscJumpsRow, standIns := [], harness := (true, "b33bd3280ac425d1ec3ffb038d83b25e1c2b6a7dd2b2f06d4cebf8df8a113466"), looks := false }, kinds := [], alts := [], laidByText := true, laidKinds := [.wider, .wider, .wider, .wider, .wider, .wider, .wider, .wider, .wider, .wider, .widerDeep], laidTests := true, laidLooks := .later }
def RiscJumpsCardSaid : Prop := Claim7.holds Tryd.pinned (.plain (OpenSpec.ofChange riscJumpsSpec)) riscJumpsCard

/-- THE TIED CARD OF 'spinetlaw02.RiscFields'. -/
def riscFieldsCard : Claim7 := { stood := { row := riscFieldsRow, standIns := [], harness := (true, "b33bd3280ac425d1ec3ffb038d83b25e1c2b6a7dd2b2f06d4cebf8df8a113466"), looks := false }, kinds := [], alts := [], laidByText := true, laidKinds := [.wider, .wider, .wider, .wider, .wider, .wider, .wider, .wider, .wider, .wider, .widerDeep], laidTests := true, laidLooks := .later }
def RiscFieldsCardSaid : Prop := Claim7.holds Tryd.pinned (.plain (OpenSpec.ofChange riscFieldsSpec)) riscFieldsCard

/-- THE TIED CARD OF 'spinetlaw02.RiscForms'. -/
def riscFormsCard : Claim7 := { stood := { row := riscFormsRow, standIns := [], harness := (true, "b33bd3280ac425d1ec3ffb038d83b25e1c2b6a7dd2b2f06d4cebf8df8a113466"), looks := false }, kinds := [], alts := [], laidByText := true, laidKinds := [.wider, .wider, .wider, .wider, .wider, .wider, .wider, .wider, .wider, .wider, .widerDeep], laidTests := true, laidLooks := .later }
def RiscFormsCardSaid : Prop := Claim7.holds Tryd.pinned (.plain (OpenSpec.ofChange riscFormsSpec)) riscFormsCard

/-- THE SECOND FORM's CARD OF 'spinetlaw02.RiscEncodes'. -/
def riscEncodesUptoCard : Claim7 := { stood := { row := riscEncodesUptoRow, standIns := [], harness := (true, "b33bd3280ac425d1ec3ffb038d83b25e1c2b6a7dd2b2f06d4cebf8df8a113466"), looks := false }, kinds := [], alts := [], laidByText := true, laidKinds := [.wider, .wider, .wider, .wider, .wider, .wider, .wider, .wider, .wider, .wider, .widerDeep], laidTests := true, laidLooks := .later }
def RiscEncodesUptoCardSaid : Prop := Claim7.holds Tryd.pinned (.plain (OpenSpec.upto riscEncodesSpec)) riscEncodesUptoCard

/-- THE SECOND FORM's CARD OF 'spinetlaw02.RiscDecodes'. -/
def riscDecodesUptoCard : Claim7 := { stood := { row := riscDecodesUptoRow, standIns := [], harness := (true, "b33bd3280ac425d1ec3ffb038d83b25e1c2b6a7dd2b2f06d4cebf8df8a113466"), looks := false }, kinds := [], alts := [], laidByText := true, laidKinds := [.wider, .wider, .wider, .wider, .wider, .wider, .wider, .wider, .wider, .wider, .widerDeep], laidTests := true, laidLooks := .later }
def RiscDecodesUptoCardSaid : Prop := Claim7.holds Tryd.pinned (.plain (OpenSpec.upto riscDecodesSpec)) riscDecodesUptoCard

/-- THE SECOND FORM's CARD OF 'spinetlaw02.RiscBack'. -/
def riscBackUptoCard : Claim7 := { stood := { row := riscBackUptoRow, standIns := [], harness := (true, "b33bd3280ac425d1ec3ffb038d83b25e1c2b6a7dd2b2f06d4cebf8df8a113466"), looks := false }, kinds := [], alts := [], laidByText := true, laidKinds := [.wider, .wider, .wider, .wider, .wider, .wider, .wider, .wider, .wider, .wider, .widerDeep], laidTests := true, laidLooks := .later }
def RiscBackUptoCardSaid : Prop := Claim7.holds Tryd.pinned (.plain (OpenSpec.upto riscBackSpec)) riscBackUptoCard

/-- THE SECOND FORM's CARD OF 'spinetlaw02.RiscJumps'. -/
def riscJumpsUptoCard : Claim7 := { stood := { row := riscJumpsUptoRow, standIns := [], harness := (true, "b33bd3280ac425d1ec3ffb038d83b25e1c2b6a7dd2b2f06d4cebf8df8a113466"), looks := false }, kinds := [], alts := [], laidByText := true, laidKinds := [.wider, .wider, .wider, .wider, .wider, .wider, .wider, .wider, .wider, .wider, .widerDeep], laidTests := true, laidLooks := .later }
def RiscJumpsUptoCardSaid : Prop := Claim7.holds Tryd.pinned (.plain (OpenSpec.upto riscJumpsSpec)) riscJumpsUptoCard

/-- THE SECOND FORM's CARD OF 'spinetlaw02.RiscFields'. -/
def riscFieldsUptoCard : Claim7 := { stood := { row := riscFieldsUptoRow, standIns := [], harness := (true, "b33bd3280ac425d1ec3ffb038d83b25e1c2b6a7dd2b2f06d4cebf8df8a113466"), looks := false }, kinds := [], alts := [], laidByText := true, laidKinds := [.wider, .wider, .wider, .wider, .wider, .wider, .wider, .wider, .wider, .wider, .widerDeep], laidTests := true, laidLooks := .later }
def RiscFieldsUptoCardSaid : Prop := Claim7.holds Tryd.pinned (.plain (OpenSpec.upto riscFieldsSpec)) riscFieldsUptoCard

/-- THE SECOND FORM's CARD OF 'spinetlaw02.RiscForms'. -/
def riscFormsUptoCard : Claim7 := { stood := { row := riscFormsUptoRow, standIns := [], harness := (true, "b33bd3280ac425d1ec3ffb038d83b25e1c2b6a7dd2b2f06d4cebf8df8a113466"), looks := false }, kinds := [], alts := [], laidByText := true, laidKinds := [.wider, .wider, .wider, .wider, .wider, .wider, .wider, .wider, .wider, .wider, .widerDeep], laidTests := true, laidLooks := .later }
def RiscFormsUptoCardSaid : Prop := Claim7.holds Tryd.pinned (.plain (OpenSpec.upto riscFormsSpec)) riscFormsUptoCard
end Rows
end Go.Proofs.YtnogmacfnlhnlaaDoor
