/-
  The document's own tokens (package spinetref09): one, the rest; Lex.
-/
import Derived.Test.YthnkkcamfcmhmaaGreatDoorLr4
namespace Go.Proofs.YthnkkcamfcmhmaaGreatDoor.Lx
open Go.RowKit Go.Proofs.YthnkkcamfcmhmaaGreatDoor.Tx
set_option linter.unusedVariables false
set_option linter.unusedSimpArgs false
set_option maxRecDepth 100000

theorem tk_shape {p : Nat} {o : Except Int (Tk × Nat)} {v : Value} (h : TkR p o v) : ∃ k x n a y e, v = .tuple #[.agg #[.int .i64 k, .string (bs x), .int .i64 n, .int .i64 a], .int .i64 y, .int .i64 e] := by
  match o, h with
  | .ok (t, len), h => exact ⟨_, _, _, _, _, _, h⟩
  | .error e, ⟨k, x, n, a, h⟩ => exact ⟨_, _, _, _, _, _, h⟩
end Go.Proofs.YthnkkcamfcmhmaaGreatDoor.Lx
