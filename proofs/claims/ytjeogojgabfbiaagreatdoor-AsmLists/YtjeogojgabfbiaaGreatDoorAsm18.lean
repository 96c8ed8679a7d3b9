/-
  A word in eight digits of base 16, as a list of bytes (for the document's own Hex).
-/
import Derived.Test.YtjeogojgabfbiaaGreatDoorAsm17
import Derived.Maps.AppendAt
import Derived.Laws.AppendOwnNone
namespace Go.Proofs.YtjeogojgabfbiaaGreatDoor.Asm
open Go.RowKit Go.Proofs.YtjeogojgabfbiaaGreatDoor.Bits Go.Proofs.YtjeogojgabfbiaaGreatDoor.Gw Go.Proofs.YtjeogojgabfbiaaGreatDoor.Risc Go.Proofs.YtjeogojgabfbiaaGreatDoor.Tx
set_option linter.unusedVariables false
set_option linter.unusedSimpArgs false
set_option maxRecDepth 100000

def hexC (d : Nat) : UInt8 := UInt8.ofNat (if d < 10 then 48 + d else 87 + d)
def dgH (x : Int) (i : Nat) : Nat := (x.toNat / 16 ^ i) % 16
/- The digits from the one at 16^i down to the last. -/
def hexF (x : Int) : Nat → List UInt8
  | 0 => []
  | i + 1 => hexC (dgH x i) :: hexF x i
def hexL (x : Int) : List UInt8 := hexF x 8
theorem hex_len (x : Int) (n : Nat) : (hexF x n).length = n := by
  induction n with
  | zero => rfl
  | succ n ih => simp [hexF, ih]
def b8 (c : UInt8) : Value := .int .u8 (c.toNat : Int)
theorem Tryz.info8 : (Tryz.prog.info? 5).map (fun i => (i.zero, i.size, i.bytes)) = some (some (.int .u8 0), 1, 1) := by kernel_rfl
end Go.Proofs.YtjeogojgabfbiaaGreatDoor.Asm
