/-
  Package risc: what Good, Encode and Decode answer.
-/
import Derived.Test.YtfdofleohichiaaDoorRisc3
import Derived.Test.YtfdofleohichiaaDoorRisc5
namespace Go.Proofs.YtfdofleohichiaaDoor.Risc
open Go.RowKit Go.Proofs.YtfdofleohichiaaDoor.Bits Go.Proofs.YtfdofleohichiaaDoor.Gw

/- Is the value what its own word's bits say? -/
def backB (f : Int) (u v : Bool) (a b c op im : Int) : Bool :=
  decide (uF (packI f u v a b c op im) = f ∧ uU (packI f u v a b c op im) = u ∧ uV (packI f u v a b c op im) = v ∧ uA (packI f u v a b c op im) = a ∧
    uB (packI f u v a b c op im) = b ∧ uC (packI f u v a b c op im) = c ∧ uOp (packI f u v a b c op im) = op ∧ uIm (packI f u v a b c op im) = im)
def goodB (f : Int) (u v : Bool) (a b c op im : Int) : Bool := backB f u v a b c op im && operB f u v op

theorem pack_range (f : Int) (u v : Bool) (a b c op im : Int) : U32 (packI f u v a b c op im) := by
  unfold packI headI
  split
  · exact U32.zero.put.put.put.put.put.put.put
  split
  · exact U32.zero.put.put.put.put.put.put.put
  split
  · exact U32.zero.put.put.put.put.put.put
  split
  · exact U32.zero.put.put.put.put.put
  · exact U32.zero.put.put.put.put.put

end Go.Proofs.YtfdofleohichiaaDoor.Risc
