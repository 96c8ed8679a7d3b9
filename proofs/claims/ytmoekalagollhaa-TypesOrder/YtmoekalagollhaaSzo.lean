/-
  What a call tells that leaves what was there.
-/
import Derived.Test.YtmoekalagollhaaTg2
namespace Go.Proofs.Ytmoekalagollhaa.Ty
open Go.RowKit hiding Hid
def SzO (w : World) (v : Value) (e : Ending) (w' : World) : Prop := e = .returned v ∧ w.grownBy w' none
end Go.Proofs.Ytmoekalagollhaa.Ty
