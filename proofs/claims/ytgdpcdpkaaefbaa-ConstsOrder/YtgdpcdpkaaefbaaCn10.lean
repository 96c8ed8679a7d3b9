/-
  Package consts: what makes closures; what the slots of its map literals hold.
-/
import Derived.Test.YtgdpcdpkaaefbaaCn9
namespace Go.Proofs.Ytgdpcdpkaaefbaa.Cn
open Go.RowKit hiding Hid
open Go.Maps Go.Proofs.Ytgdpcdpkaaefbaa.Tx Go.Proofs.Ytgdpcdpkaaefbaa.Lx Go.Proofs.Ytgdpcdpkaaefbaa.Mp Go.Proofs.Ytgdpcdpkaaefbaa.Bits Go.Proofs.Ytgdpcdpkaaefbaa.Tr
set_option linter.unusedVariables false
set_option linter.unusedSimpArgs false
set_option maxRecDepth 100000


set_option maxHeartbeats 1600000 in
theorem ofInts_mk (g : FuncId) (w : World) : Calls Try.prog 53 #[fnV g] w fun e w' => ∃ b, e = .returned (clV 91 b) ∧ w.grownBy w' none ∧ w'.cell? ⟨b, 0, none⟩ = some (fnV g) := by
  unfold fnV
  go_enter Try.func53, Try.ntmps53
  go_wp2
  go_ret
  exact ⟨w.heap.size, rfl, gal (gr_ref w none) _, by simp⟩
theorem op_ofInts {o : Oper} {a : Act} {w : World} {K' : Act → World → Prop} {Q : Exit → Act → World → Prop} {d : Nat} (g : FuncId) (hd : o.dst = some d) (ho : o.op = .call { callee := .value (.func 53), args := #[.func g], argTypes := #[81] }) (h : ∀ v w', w.grownBy w' none → (∃ b, v = clV 91 b ∧ w'.cell? ⟨b, 0, none⟩ = some (fnV g)) → K' (a.put (some d) v) w') : Oper.wp Try.prog o a w K' Q := by
  have hcf : ∀ ar W, (callFunc 53 ar).run Try.prog W = .ok (.enter 53 ar) W := fun _ _ => rfl
  refine op_enter (f := 53) (args := #[fnV g]) (by unfold execOp; simp [ho, resolve, invoke, Act.eval, go_sem, hcf, fnV]) ((ofInts_mk g w).mono ?_)
  rintro e w' ⟨b, rfl, hg, hc⟩
  rw [hd]
  exact h _ _ hg ⟨b, rfl, hc⟩

set_option maxHeartbeats 1600000 in
theorem ofWords_mk (g : FuncId) (w : World) : Calls Try.prog 80 #[fnV g] w fun e w' => ∃ b, e = .returned (clV 109 b) ∧ w.grownBy w' none ∧ w'.cell? ⟨b, 0, none⟩ = some (fnV g) := by
  unfold fnV
  go_enter Try.func80, Try.ntmps80
  go_wp2
  go_ret
  exact ⟨w.heap.size, rfl, gal (gr_ref w none) _, by simp⟩
theorem op_ofWords {o : Oper} {a : Act} {w : World} {K' : Act → World → Prop} {Q : Exit → Act → World → Prop} {d : Nat} (g : FuncId) (hd : o.dst = some d) (ho : o.op = .call { callee := .value (.func 80), args := #[.func g], argTypes := #[73] }) (h : ∀ v w', w.grownBy w' none → (∃ b, v = clV 109 b ∧ w'.cell? ⟨b, 0, none⟩ = some (fnV g)) → K' (a.put (some d) v) w') : Oper.wp Try.prog o a w K' Q := by
  have hcf : ∀ ar W, (callFunc 80 ar).run Try.prog W = .ok (.enter 80 ar) W := fun _ _ => rfl
  refine op_enter (f := 80) (args := #[fnV g]) (by unfold execOp; simp [ho, resolve, invoke, Act.eval, go_sem, hcf, fnV]) ((ofWords_mk g w).mono ?_)
  rintro e w' ⟨b, rfl, hg, hc⟩
  rw [hd]
  exact h _ _ hg ⟨b, rfl, hc⟩

set_option maxHeartbeats 1600000 in
theorem ofSets_mk (g : FuncId) (w : World) : Calls Try.prog 56 #[fnV g] w fun e w' => ∃ b, e = .returned (clV 93 b) ∧ w.grownBy w' none ∧ w'.cell? ⟨b, 0, none⟩ = some (fnV g) := by
  unfold fnV
  go_enter Try.func56, Try.ntmps56
  go_wp2
  go_ret
  exact ⟨w.heap.size, rfl, gal (gr_ref w none) _, by simp⟩
theorem op_ofSets {o : Oper} {a : Act} {w : World} {K' : Act → World → Prop} {Q : Exit → Act → World → Prop} {d : Nat} (g : FuncId) (hd : o.dst = some d) (ho : o.op = .call { callee := .value (.func 56), args := #[.func g], argTypes := #[73] }) (h : ∀ v w', w.grownBy w' none → (∃ b, v = clV 93 b ∧ w'.cell? ⟨b, 0, none⟩ = some (fnV g)) → K' (a.put (some d) v) w') : Oper.wp Try.prog o a w K' Q := by
  have hcf : ∀ ar W, (callFunc 56 ar).run Try.prog W = .ok (.enter 56 ar) W := fun _ _ => rfl
  refine op_enter (f := 56) (args := #[fnV g]) (by unfold execOp; simp [ho, resolve, invoke, Act.eval, go_sem, hcf, fnV]) ((ofSets_mk g w).mono ?_)
  rintro e w' ⟨b, rfl, hg, hc⟩
  rw [hd]
  exact h _ _ hg ⟨b, rfl, hc⟩

set_option maxHeartbeats 1600000 in
theorem tells_mk (g : FuncId) (w : World) : Calls Try.prog 58 #[fnV g] w fun e w' => ∃ b, e = .returned (clV 95 b) ∧ w.grownBy w' none ∧ w'.cell? ⟨b, 0, none⟩ = some (fnV g) := by
  unfold fnV
  go_enter Try.func58, Try.ntmps58
  go_wp2
  go_ret
  exact ⟨w.heap.size, rfl, gal (gr_ref w none) _, by simp⟩
theorem op_tells {o : Oper} {a : Act} {w : World} {K' : Act → World → Prop} {Q : Exit → Act → World → Prop} {d : Nat} (g : FuncId) (hd : o.dst = some d) (ho : o.op = .call { callee := .value (.func 58), args := #[.func g], argTypes := #[31] }) (h : ∀ v w', w.grownBy w' none → (∃ b, v = clV 95 b ∧ w'.cell? ⟨b, 0, none⟩ = some (fnV g)) → K' (a.put (some d) v) w') : Oper.wp Try.prog o a w K' Q := by
  have hcf : ∀ ar W, (callFunc 58 ar).run Try.prog W = .ok (.enter 58 ar) W := fun _ _ => rfl
  refine op_enter (f := 58) (args := #[fnV g]) (by unfold execOp; simp [ho, resolve, invoke, Act.eval, go_sem, hcf, fnV]) ((tells_mk g w).mono ?_)
  rintro e w' ⟨b, rfl, hg, hc⟩
  rw [hd]
  exact h _ _ hg ⟨b, rfl, hc⟩

set_option maxHeartbeats 1600000 in
theorem division_mk (g : FuncId) (w : World) : Calls Try.prog 65 #[fnV g] w fun e w' => ∃ b, e = .returned (clV 98 b) ∧ w.grownBy w' none ∧ w'.cell? ⟨b, 0, none⟩ = some (fnV g) := by
  unfold fnV
  go_enter Try.func65, Try.ntmps65
  go_wp2
  go_ret
  exact ⟨w.heap.size, rfl, gal (gr_ref w none) _, by simp⟩
theorem op_division {o : Oper} {a : Act} {w : World} {K' : Act → World → Prop} {Q : Exit → Act → World → Prop} {d : Nat} (g : FuncId) (hd : o.dst = some d) (ho : o.op = .call { callee := .value (.func 65), args := #[.func g], argTypes := #[81] }) (h : ∀ v w', w.grownBy w' none → (∃ b, v = clV 98 b ∧ w'.cell? ⟨b, 0, none⟩ = some (fnV g)) → K' (a.put (some d) v) w') : Oper.wp Try.prog o a w K' Q := by
  have hcf : ∀ ar W, (callFunc 65 ar).run Try.prog W = .ok (.enter 65 ar) W := fun _ _ => rfl
  refine op_enter (f := 65) (args := #[fnV g]) (by unfold execOp; simp [ho, resolve, invoke, Act.eval, go_sem, hcf, fnV]) ((division_mk g w).mono ?_)
  rintro e w' ⟨b, rfl, hg, hc⟩
  rw [hd]
  exact h _ _ hg ⟨b, rfl, hc⟩

theorem op_bld {o : Oper} {a : Act} {w : World} {K' : Act → World → Prop} {Q : Exit → Act → World → Prop} {d : Nat} {x : Ky} (hd : o.dst = some d) (ho : (execOp a.eval o).run Try.prog w = .ok (.value (kyV x)) w) (h : ∀ v w', w.grownBy w' none → v = kyV x → K' (a.put (some d) v) w') : Oper.wp Try.prog o a w K' Q := by
  refine op_val (v := kyV x) (w' := w) ho ?_
  rw [hd]
  exact h _ _ (gr_ref w none) rfl
/- What the slots of a literal hold. -/
inductive Sp where
  | ky (x : Ky)
  | cl (F g : FuncId)
def phi (sp : List (Nat × Sp)) (d : Nat) (v : Value) (w : World) : Prop := match sp.lookup d with
  | some (.ky x) => v = kyV x ∧ kok x
  | some (.cl F g) => ∃ b, v = clV F b ∧ w.cell? ⟨b, 0, none⟩ = some (fnV g)
  | none => False
theorem phi_g (sp : List (Nat × Sp)) (d : Nat) (v : Value) (w w' : World) (h : phi sp d v w) (hg : w.grownBy w' none) : phi sp d v w' := by
  unfold phi at h ⊢
  split at h
  · exact h
  · obtain ⟨b, h1, h2⟩ := h; exact ⟨b, h1, hg.cell h2 (by simp)⟩
  · exact h.elim
theorem phi_m (sp : List (Nat × Sp)) (d : Nat) (v : Value) (w w' : World) (mb : Nat) (l : List (Value × Value)) (h : phi sp d v w) (hm : MapL Try.prog 79 w mb l) (hg : w.grownBy w' (some mb)) : phi sp d v w' := by
  unfold phi at h ⊢
  split at h
  · exact h
  · obtain ⟨b, h1, h2⟩ := h; exact ⟨b, h1, hg.cell h2 (map_no_cell hm h2)⟩
  · exact h.elim
theorem kok_of (x : Ky) (h : (decide (-9223372036854775808 ≤ x.1) && decide (x.1 ≤ 9223372036854775807) && (decide (-9223372036854775808 ≤ x.2.1) && decide (x.2.1 ≤ 9223372036854775807)) && decide (x.2.2.length ≤ 100)) = true) : kok x := by
  simp only [Bool.and_eq_true, decide_eq_true_eq] at h
  exact ⟨h.1.1, h.1.2, Nat.le_trans h.2 (by unfold maxLen; decide)⟩
end Go.Proofs.Ytgdpcdpkaaefbaa.Cn
