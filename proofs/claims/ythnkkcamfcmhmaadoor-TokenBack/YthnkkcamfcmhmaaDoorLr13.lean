/-
  The document's own tokens (package spinetref09): One.
-/
import Derived.Test.YthnkkcamfcmhmaaDoorLr12
namespace Go.Proofs.YthnkkcamfcmhmaaDoor.Lx
open Go.RowKit Go.Proofs.YthnkkcamfcmhmaaDoor.Tx
set_option linter.unusedVariables false
set_option linter.unusedSimpArgs false
set_option maxRecDepth 100000

/- A token as it stands. -/
def oneS (t : Tk) : List UInt8 :=
  if t.k = 3 then (if t.n < 0 then hexT (t.n + 4294967296).toNat true ++ [72] else decN t.n.toNat)
  else if t.k = 4 then hexT t.n.toNat false ++ [88]
  else if t.k = 5 then 34 :: (t.t ++ [34])
  else t.t
theorem hexT_len (n : Nat) (al : Bool) : (hexT n al).length ≤ 10 := by
  have := hxN_len n
  unfold hexT
  split
  · simp; omega
  · omega
end Go.Proofs.YthnkkcamfcmhmaaDoor.Lx
