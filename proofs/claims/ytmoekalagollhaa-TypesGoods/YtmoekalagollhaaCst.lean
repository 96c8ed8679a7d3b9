/-
  The document's own tokens (package spinetref09): String.
-/
import Derived.Test.YtmoekalagollhaaProg
import Derived.Test.YtmoekalagollhaaLx1
import Derived.Test.YtmoekalagollhaaTk0
import Derived.WalkKit
import Derived.ProofKit
import Derived.Deep.QuietTactic
import Derived.BigQuiet
import Derived.Deep.Cut
import Derived.RegionTactic
import Derived.Laws.Cover1
import Derived.Lib.SmallJoins
namespace Go.Proofs.Ytmoekalagollhaa.Lx
open Go.RowKit Go.Proofs.Ytmoekalagollhaa.Tx
set_option linter.unusedVariables false
set_option linter.unusedSimpArgs false
set_option maxRecDepth 100000

def strB (s : List UInt8) : Bool := decide (s.length ≤ 64) && s.all strN
theorem strB_long {s : List UInt8} (h : 64 < s.length) : strB s = false := by unfold strB; rw [decide_eq_false (by omega)]; rfl
theorem strB_in {s : List UInt8} (h : ¬ 64 < s.length) : strB s = s.all strN := by unfold strB; rw [decide_eq_true (by omega)]; rfl
theorem all_not {f : UInt8 → Bool} {s : List UInt8} {q : Nat} {c : UInt8} (h : s[q]? = some c) (hf : f c = false) : s.all f = false := by
  obtain ⟨hq, rfl⟩ := List.getElem?_eq_some_iff.1 h
  rw [Bool.eq_false_iff]
  intro ha
  have := List.all_eq_true.1 ha _ (List.getElem_mem hq)
  rw [hf] at this
  cases this
theorem all_on {f : UInt8 → Bool} {s : List UInt8} {q : Nat} {c : UInt8} (h : s[q]? = some c) (ha : (s.take q).all f = true) (hf : f c = true) : (s.take (q + 1)).all f = true := by
  obtain ⟨hq, rfl⟩ := List.getElem?_eq_some_iff.1 h
  rw [List.take_succ_eq_append_getElem hq, List.all_append, ha]
  simp [hf]
end Go.Proofs.Ytmoekalagollhaa.Lx
