/-
  Package types: a type's names and parts.
-/
import Derived.Test.YtmoekalagollhaaTy2
import Derived.Test.YtmoekalagollhaaTy3
namespace Go.Proofs.Ytmoekalagollhaa.Ty
open Go.RowKit hiding Hid
open Go.Proofs.Ytmoekalagollhaa.Tx Go.Proofs.Ytmoekalagollhaa.Lx Go.Proofs.Ytmoekalagollhaa.Tr
set_option linter.unusedVariables false
set_option linter.unusedSimpArgs false
set_option maxRecDepth 100000

def bareB (x : Tt) : Bool := x.ln == 0 && x.el == 0 && x.ba == 0 && (x.fl.length == 0) && (x.pm.length == 0) && x.rs == 0 && x.ds == 0
theorem gx (w : World) (a : Obj) : w.grownBy (w.alloc a) none := World.grownBy_alloc w _ none
set_option maxHeartbeats 4000000 in
theorem bare_at {w : World} {a : La} : Calls Try.prog 42 #[.agg (laC a).toArray] w fun e w' => e = .returned (.bool (bareB a.x)) ∧ w.grownBy w' none := by
  obtain ⟨⟨fm, md, nm, ln, el, ba, fl, pm, rs, ds⟩, fo, fc, po, pc⟩ := a
  unfold bareB laC
  dsimp only
  by_cases h1 : ln = 0
  case neg => (go_enter Try.func42, Try.ntmps42; go_wp2; go_ret; refine ⟨?_, gx _ _⟩; simp_all)
  by_cases h2 : el = 0
  case neg => (go_enter Try.func42, Try.ntmps42; go_wp2; go_ret; refine ⟨?_, gx _ _⟩; simp_all)
  by_cases h3 : ba = 0
  case neg => (go_enter Try.func42, Try.ntmps42; go_wp2; go_ret; refine ⟨?_, gx _ _⟩; simp_all)
  by_cases h4 : fl.length = 0
  case neg => (go_enter Try.func42, Try.ntmps42; go_wp2; go_ret; refine ⟨?_, gx _ _⟩; simp_all)
  by_cases h5 : pm.length = 0
  case neg => (go_enter Try.func42, Try.ntmps42; go_wp2; go_ret; refine ⟨?_, gx _ _⟩; simp_all)
  by_cases h6 : rs = 0
  case neg => (go_enter Try.func42, Try.ntmps42; go_wp2; go_ret; refine ⟨?_, gx _ _⟩; simp_all)
  by_cases h7 : ds = 0
  case neg => (go_enter Try.func42, Try.ntmps42; go_wp2; go_ret; refine ⟨?_, gx _ _⟩; simp_all)
  (go_enter Try.func42, Try.ntmps42; go_wp2; go_ret; refine ⟨?_, gx _ _⟩; simp_all)
end Go.Proofs.Ytmoekalagollhaa.Ty
