/-
  The document's own tokens (package spinetref09): one, signs; one as a whole.
-/
import Derived.Test.YthnkkcamfcmhmaaGreatDoorLr5
namespace Go.Proofs.YthnkkcamfcmhmaaGreatDoor.Lx
open Go.RowKit Go.Proofs.YthnkkcamfcmhmaaGreatDoor.Tx
set_option linter.unusedVariables false
set_option linter.unusedSimpArgs false
set_option maxRecDepth 100000

end Go.Proofs.YthnkkcamfcmhmaaGreatDoor.Lx
