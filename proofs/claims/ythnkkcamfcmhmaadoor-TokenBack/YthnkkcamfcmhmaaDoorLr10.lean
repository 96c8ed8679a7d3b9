/-
  The document's own tokens (package spinetref09): Good.
-/
import Derived.Test.YthnkkcamfcmhmaaDoorLr9
namespace Go.Proofs.YthnkkcamfcmhmaaDoor.Lx
open Go.RowKit Go.Proofs.YthnkkcamfcmhmaaDoor.Tx
set_option linter.unusedVariables false
set_option linter.unusedSimpArgs false
set_option maxRecDepth 100000

def goodT (t : Tk) : Bool :=
  if t.k = 1 then t.n == 0 && nameB t.t
  else if t.k = 2 then t.n == 0 && keyB t.t
  else if t.k = 3 then t.t == [] && (decide (-2147483648 ≤ t.n) && decide (t.n < 2147483648))
  else if t.k = 4 then t.t == [] && (decide (0 ≤ t.n) && decide (t.n < 256))
  else if t.k = 5 then t.n == 0 && strB t.t
  else if t.k = 6 then t.n == 0 && signB t.t
  else false
def aggT (t : Tk) : Value := .agg #[.int .i64 t.k, .string (bs t.t), .int .i64 t.n, .int .i64 t.a]
end Go.Proofs.YthnkkcamfcmhmaaDoor.Lx
