/-
  DERIVED. GIVEN WITH THE SEED: THE CARDS: each row of YtaekljpijnkjoaaDoorRows.lean that lists a variable, with what it lists TIED to the program's text (the seventh form; the later family's looks); each row that meets fmt, with fmt's text TOLD by the authors' own Lean function (tested against real Go, not proved from fmt's source: count such statements apart). THE CARD IS WHAT COUNTS. Prove the row's statement (the work); the ties are given (YtaekljpijnkjoaaDoorTie.lean); close each card by the builder's one call (the guide's Derived/Test/ToyasCard.lean, 'card_holds'). Laid BY PROGRAM, IN A SANDBOX (cutbox-door.mjs). By AI agents, Wed Nov 11 2026. No macro, syntax, notation, axiom, sorry.
-/
import Derived.Test.YtaekljpijnkjoaaDoorRows
import GoSem.ClaimSeven
namespace Go.Proofs.YtaekljpijnkjoaaDoor
namespace Rows

/-- THE TIED CARD OF 'spinetlaw07.StorePlays'. -/
def storePlaysCard : Claim7 := { stood := { row := storePlaysRow, standIns := [], harness := (true, "f34cf41fdc5622416673053c98f882e136cdaf09cb127f09f3aaf0ad4432a0d5"), looks := false }, kinds := [], alts := [], laidByText := true, laidKinds := [.data, .pinned], laidTests := true, laidLooks := .later }
def StorePlaysCardSaid : Prop := Claim7.holds Tryd.pinned (.plain (OpenSpec.ofChange storePlaysSpec)) storePlaysCard

/-- THE TIED CARD OF 'spinetlaw07.StoreNone'. -/
def storeNoneCard : Claim7 := { stood := { row := storeNoneRow, standIns := [], harness := (true, "f34cf41fdc5622416673053c98f882e136cdaf09cb127f09f3aaf0ad4432a0d5"), looks := false }, kinds := [], alts := [], laidByText := true, laidKinds := [.data, .pinned], laidTests := true, laidLooks := .later }
def StoreNoneCardSaid : Prop := Claim7.holds Tryd.pinned (.plain (OpenSpec.ofChange storeNoneSpec)) storeNoneCard

/-- THE TIED CARD OF 'spinetlaw07.StoreFull'. -/
def storeFullCard : Claim7 := { stood := { row := storeFullRow, standIns := [], harness := (true, "f34cf41fdc5622416673053c98f882e136cdaf09cb127f09f3aaf0ad4432a0d5"), looks := false }, kinds := [], alts := [], laidByText := true, laidKinds := [.data, .pinned], laidTests := true, laidLooks := .later }
def StoreFullCardSaid : Prop := Claim7.holds Tryd.pinned (.plain (OpenSpec.ofChange storeFullSpec)) storeFullCard

/-- THE TIED CARD OF 'spinetlaw07.StoreForks'. -/
def storeForksCard : Claim7 := { stood := { row := storeForksRow, standIns := [], harness := (true, "f34cf41fdc5622416673053c98f882e136cdaf09cb127f09f3aaf0ad4432a0d5"), looks := false }, kinds := [], alts := [], laidByText := true, laidKinds := [.data, .pinned], laidTests := true, laidLooks := .later }
def StoreForksCardSaid : Prop := Claim7.holds Tryd.pinned (.plain (OpenSpec.ofChange storeForksSpec)) storeForksCard

/-- THE SECOND FORM's CARD OF 'spinetlaw07.StorePlays'. -/
def storePlaysUptoCard : Claim7 := { stood := { row := storePlaysUptoRow, standIns := [], harness := (true, "f34cf41fdc5622416673053c98f882e136cdaf09cb127f09f3aaf0ad4432a0d5"), looks := false }, kinds := [], alts := [], laidByText := true, laidKinds := [.data, .pinned], laidTests := true, laidLooks := .later }
def StorePlaysUptoCardSaid : Prop := Claim7.holds Tryd.pinned (.plain (OpenSpec.upto storePlaysSpec)) storePlaysUptoCard

/-- THE SECOND FORM's CARD OF 'spinetlaw07.StoreNone'. -/
def storeNoneUptoCard : Claim7 := { stood := { row := storeNoneUptoRow, standIns := [], harness := (true, "f34cf41fdc5622416673053c98f882e136cdaf09cb127f09f3aaf0ad4432a0d5"), looks := false }, kinds := [], alts := [], laidByText := true, laidKinds := [.data, .pinned], laidTests := true, laidLooks := .later }
def StoreNoneUptoCardSaid : Prop := Claim7.holds Tryd.pinned (.plain (OpenSpec.upto storeNoneSpec)) storeNoneUptoCard

/-- THE SECOND FORM's CARD OF 'spinetlaw07.StoreFull'. -/
def storeFullUptoCard : Claim7 := { stood := { row := storeFullUptoRow, standIns := [], harness := (true, "f34cf41fdc5622416673053c98f882e136cdaf09cb127f09f3aaf0ad4432a0d5"), looks := false }, kinds := [], alts := [], laidByText := true, laidKinds := [.data, .pinned], laidTests := true, laidLooks := .later }
def StoreFullUptoCardSaid : Prop := Claim7.holds Tryd.pinned (.plain (OpenSpec.upto storeFullSpec)) storeFullUptoCard

/-- THE SECOND FORM's CARD OF 'spinetlaw07.StoreForks'. -/
def storeForksUptoCard : Claim7 := { stood := { row := storeForksUptoRow, standIns := [], harness := (true, "f34cf41fdc5622416673053c98f882e136cdaf09cb127f09f3aaf0ad4432a0d5"), looks := false }, kinds := [], alts := [], laidByText := true, laidKinds := [.data, .pinned], laidTests := true, laidLooks := .later }
def StoreForksUptoCardSaid : Prop := Claim7.holds Tryd.pinned (.plain (OpenSpec.upto storeForksSpec)) storeForksUptoCard
end Rows
end Go.Proofs.YtaekljpijnkjoaaDoor
