/-
  What the document's own ops, conds and Line do.
-/
import Derived.Test.YtjeogojgabfbiaaGreatDoorAsm1
import Derived.Test.YtjeogojgabfbiaaGreatDoorTx2
import Derived.Test.YtjeogojgabfbiaaGreatDoorRref3
namespace Go.Proofs.YtjeogojgabfbiaaGreatDoor.Asm
open Go.RowKit Go.Proofs.YtjeogojgabfbiaaGreatDoor.Bits Go.Proofs.YtjeogojgabfbiaaGreatDoor.Gw Go.Proofs.YtjeogojgabfbiaaGreatDoor.Risc Go.Proofs.YtjeogojgabfbiaaGreatDoor.Tx
set_option linter.unusedVariables false
set_option linter.unusedSimpArgs false
set_option maxRecDepth 100000

/- The class of worlds may be turned at a call. -/
theorem wpAnyH_sub {P : Program} {md : Region.Mode} {ops : Array Oper} {Q : Exit → Act → World → Prop} {S S' : World → Prop} (hSS : ∀ w, S' w → S w) :
    ∀ (fuel : Nat) (listed : Array Bool) (a : Act) (w : World), wpAnyH P md ops Q S' fuel listed a w → wpAnyH P md ops Q S fuel listed a w
  | 0, _, _, _, h => h
  | fuel + 1, _, _, _, h => ⟨h.1, fun i hi => wpOp_mono (fun a' w' h' => ⟨hSS w' h'.1, wpAnyH_sub hSS fuel _ a' w' h'.2⟩) (h.2 i hi)⟩
theorem ready_turn {P : Program} {md : Region.Mode} {ops : Array Oper} {Q : Exit → Act → World → Prop} {S : World → Prop} {fuel : Nat} {listed : Array Bool} {a : Act} {w : World} {i : Nat} {o : Oper} (ho : ops[i]? = some o)
    (hr : Region.ready md ops listed = [i])
    (h : ∀ K' : Act → World → Prop, Shut (∀ a w, ∀ S' : World → Prop, (∀ w, S' w → S w) → S' w → (S' w → wpAnyH P md ops Q S' fuel (listed.setIfInBounds i true) a w) → K' a w) → if Region.wanted o (yielded ops a.tmps) = true then Oper.wp P o a w K' Q else K' (a.put o.dst undef) w) :
    wpAnyH P md ops Q S (fuel + 1) listed a w := by
  refine wpAnyH_ready hr (by simp) (AllReadyH.cons ho (fun K' hK => ?_) AllReadyH.nil)
  refine h K' (fun a w S' hSS hS' hW => ?_)
  exact hK.out a w (hSS w hS') (fun _ => wpAnyH_sub hSS _ _ _ _ (hW hS'))
set_option maxHeartbeats 1000000 in
theorem ops_any (w : World) : Calls Tryz.prog 20 #[] w fun e w' => ∃ b, e = .returned (.slice (some ⟨b, 0, none⟩) 12 12) ∧ w.grownBy w' none ∧ w.heap.size ≤ b ∧ ∀ k : Nat, k < 12 → w'.cell? ⟨b, k, none⟩ = some (.string (bs (nm opNs k))) := by
  go_enter Tryz.func20, Tryz.ntmps20
  go_wp2
  go_ret
  refine ⟨_, rfl, World.grownBy_alloc _ _ _, Nat.le_refl _, fun k hk => ?_⟩
  have : k = 0 ∨ k = 1 ∨ k = 2 ∨ k = 3 ∨ k = 4 ∨ k = 5 ∨ k = 6 ∨ k = 7 ∨ k = 8 ∨ k = 9 ∨ k = 10 ∨ k = 11 := by omega
  rcases this with h | h | h | h | h | h | h | h | h | h | h | h <;> subst h <;> (rw [cell_of_row _ _ _ _ _ _ (heap_alloc_new _ _)]; rfl)
set_option maxHeartbeats 1000000 in
theorem conds_any (w : World) : Calls Tryz.prog 23 #[] w fun e w' => ∃ b, e = .returned (.slice (some ⟨b, 0, none⟩) 16 16) ∧ w.grownBy w' none ∧ w.heap.size ≤ b ∧ ∀ k : Nat, k < 16 → w'.cell? ⟨b, k, none⟩ = some (.string (bs (nm cdNs k))) := by
  go_enter Tryz.func23, Tryz.ntmps23
  go_wp2
  go_ret
  refine ⟨_, rfl, World.grownBy_alloc _ _ _, Nat.le_refl _, fun k hk => ?_⟩
  have : k = 0 ∨ k = 1 ∨ k = 2 ∨ k = 3 ∨ k = 4 ∨ k = 5 ∨ k = 6 ∨ k = 7 ∨ k = 8 ∨ k = 9 ∨ k = 10 ∨ k = 11 ∨ k = 12 ∨ k = 13 ∨ k = 14 ∨ k = 15 := by omega
  rcases this with h | h | h | h | h | h | h | h | h | h | h | h | h | h | h | h <;> subst h <;> (rw [cell_of_row _ _ _ _ _ _ (heap_alloc_new _ _)]; rfl)
end Go.Proofs.YtjeogojgabfbiaaGreatDoor.Asm
