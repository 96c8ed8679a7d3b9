/-
  Package asm: the two maps of names.
-/
import Derived.Test.YtjeogojgabfbiaaGreatDoorNm4
namespace Go.Proofs.YtjeogojgabfbiaaGreatDoor.Asm
open Go.RowKit Go.Maps Go.Proofs.YtjeogojgabfbiaaGreatDoor.Bits Go.Proofs.YtjeogojgabfbiaaGreatDoor.Gw Go.Proofs.YtjeogojgabfbiaaGreatDoor.Risc Go.Proofs.YtjeogojgabfbiaaGreatDoor.Tx Go.Proofs.YtjeogojgabfbiaaGreatDoor.Mp
set_option linter.unusedVariables false
set_option linter.unusedSimpArgs false
set_option maxRecDepth 100000

theorem Nms.g {w w' : World} (h : Nms w) (hg : w.grownBy w' none) : Nms w' := by
  have s := h.size
  obtain ⟨t, fr, h1⟩ := h.ops
  obtain ⟨t', fr', h2⟩ := h.conds
  exact ⟨Nat.le_trans s hg.size, ⟨t, fr, (hg.block _ (by omega) (by simp)).trans h1⟩, ⟨t', fr', (hg.block _ (by omega) (by simp)).trans h2⟩⟩
theorem run_make {t k e : TypeId} (ht : Tryz.prog.underlying t = some (.map k e)) (w : World) : (Instr.makeMap t (some (.int .i64 164))).run Tryz.prog w = .ok (.map (some w.heap.size)) (w.alloc (.map #[] 0)) := by
  simp [Instr.makeMap, run_underlying ht, asInt, asIntOf]
theorem grown_new {w w' : World} {b : Nat} (h : w.grownBy w' (some b)) {v : World} (hv : v.grownBy w none) (hb : v.heap.size ≤ b) : v.grownBy w' none :=
  ⟨h.os.trans hv.os, h.tape.trans hv.tape, h.output.trans hv.output, Nat.le_trans hv.size h.size, fun k hk _ => (h.block k (Nat.lt_of_lt_of_le hk hv.size) (by simp; omega)).trans (hv.block k hk (by simp))⟩
set_option maxHeartbeats 1000000 in
theorem names_any (w : World) (hN : Nms w) : Calls Tryz.prog 18 #[] w fun e w' => ∃ b, e = .returned (.map (some b)) ∧ w.grownBy w' none ∧ w.heap.size ≤ b ∧ MapL Tryz.prog 83 w' b ((tab 4).map enN) := by
  have hmm := run_make Tryz.underlying44
  have HN := hide hN
  clear hN
  go_enter Tryz.func18, Tryz.ntmps18
  go_wp2_with fail
  refine (each_names (b := w.heap.size) (c := w.heap.size + 1) _ (HN.out.g (grown_trans (World.grownBy_alloc w _ none) (World.grownBy_alloc _ _ none))) HN.out.size (by simp) (by omega) (by simp) ((MapL.made 83 w).kept (World.grownBy_alloc _ _ none) (by simp))).mono ?_
  rintro e w1 ⟨rfl, hg, hM⟩
  have hcl : w1.cell? ⟨w.heap.size + 1, 0, none⟩ = some (.map (some w.heap.size)) := by
    rw [gcellb hg (by omega) (by simp)]
    simp
  have HG := hide hg
  have HMM := hide hM
  clear hg hM
  go_wp2
  go_ret
  exact ⟨w.heap.size, rfl, grown_new HG.out (grown_trans (World.grownBy_alloc w _ none) (World.grownBy_alloc _ _ none)) (Nat.le_refl _), Nat.le_refl _, HMM.out⟩
set_option maxHeartbeats 1000000 in
theorem kinds_any (w : World) (hN : Nms w) : Calls Tryz.prog 25 #[] w fun e w' => ∃ b, e = .returned (.map (some b)) ∧ w.grownBy w' none ∧ w.heap.size ≤ b ∧ MapL Tryz.prog 81 w' b ((tab 4).map enK) := by
  have hmm := run_make Tryz.underlying55
  have HN := hide hN
  clear hN
  go_enter Tryz.func25, Tryz.ntmps25
  go_wp2_with fail
  refine (each_kinds (b := w.heap.size) (c := w.heap.size + 1) _ (HN.out.g (grown_trans (World.grownBy_alloc w _ none) (World.grownBy_alloc _ _ none))) HN.out.size (by simp) (by omega) (by simp) ((MapL.made 81 w).kept (World.grownBy_alloc _ _ none) (by simp))).mono ?_
  rintro e w1 ⟨rfl, hg, hM⟩
  have hcl : w1.cell? ⟨w.heap.size + 1, 0, none⟩ = some (.map (some w.heap.size)) := by
    rw [gcellb hg (by omega) (by simp)]
    simp
  have HG := hide hg
  have HMM := hide hM
  clear hg hM
  go_wp2
  go_ret
  exact ⟨w.heap.size, rfl, grown_new HG.out (grown_trans (World.grownBy_alloc w _ none) (World.grownBy_alloc _ _ none)) (Nat.le_refl _), Nat.le_refl _, HMM.out⟩
end Go.Proofs.YtjeogojgabfbiaaGreatDoor.Asm
