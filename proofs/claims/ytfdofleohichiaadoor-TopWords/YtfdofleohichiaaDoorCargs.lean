/-
  What is known of the laws' arguments: lists of words, strings, pairs of numbers.
-/
import Derived.Test.YtfdofleohichiaaDoorCrep
import Derived.Test.YtfdofleohichiaaDoorRargs
import Derived.ProofKit
import Derived.OpenShut
import Derived.ShutString
import Derived.ChangeOld
import Derived.ChangeMaps5
import Derived.Deep.Slices
import Derived.Below
namespace Go.Proofs.YtfdofleohichiaaDoor.Cpu
open Go.ChangeShapes Go.WideShapes Go.ChangeAt Go.RowKit Go.Deep Go.Proofs.YtfdofleohichiaaDoor.Mem
set_option maxRecDepth 100000

theorem laidOut : laidOutB Tryd.prog = true := by kernel_rfl
theorem cellsU : Tryd.prog.cellsOf 32 = 1 := by kernel_rfl
theorem cellsI : Tryd.prog.cellsOf 3 = 1 := by kernel_rfl
/- The argument '.slice ao n cp' is the list of words xs. -/
structure Wl (w : World) (ao : Option Addr) (n cp : Nat) (xs : List Int) : Prop where
  src : Src w ao xs
  len : xs.length = n
  rng : inR xs
  none : ao = .none → cp = 0
  max : n ≤ maxLen
section
variable {H : Type} {enc : TypeId × Value → H} {W : World} {base b0 : Nat} {spare : Nat → Bool} {held : Bool} {r : Reach}
theorem open_words {ao : Option Addr} {n cp : Nat} {d : DataW H} {p : List MemPlace} (h : DataW.Trod enc Tryd.prog W base spare held 22 (.slice ao n cp) d p) : ∃ xs, Wl W ao n cp xs := by
  obtain ⟨fuel, hf⟩ := h
  rcases open_slice1 Tryd.underlying22 cellsU hf with ⟨hcs, _⟩ | ⟨a, len, cap, m, k, V, D, Pl, hcs, _, hl, hm, hmm, _, hx⟩
  · simp [Value.cells] at hcs
    obtain ⟨rfl, rfl, rfl⟩ := hcs
    exact ⟨[], Src.nil W, rfl, inR_nil, fun _ => rfl, Nat.zero_le _⟩
  · simp [Value.cells] at hcs
    obtain ⟨rfl, rfl, rfl⟩ := hcs
    have hlm : n ≤ m := by rw [hmm]; split <;> omega
    obtain ⟨f, hf⟩ := choose_lt (α := Int) (n := n) (p := fun i x => W.cell? (a.add i) = some (wd x) ∧ 0 ≤ x ∧ x < 4294967296) (fun i hi => by
      obtain ⟨h1, h2⟩ := hx i (by omega)
      obtain ⟨x, e, _, hw⟩ := DataW.trod_int Tryd.underlying32 h2
      simp at e
      have := bounds_u32 hw
      exact ⟨x, by rw [h1, e], by omega, by omega⟩)
    refine ⟨(List.range n).map f, Src.mk' fun j u hu => ?_, by simp, fun x hx => ?_, fun e => (by cases e), by omega⟩
    · have hj : j < n := by have := (List.getElem?_eq_some_iff.1 hu).1; simpa using this
      simp [hj] at hu
      rw [(hf j hj).1, hu]
    · obtain ⟨i, hi, rfl⟩ := List.mem_map.1 hx
      exact (hf i (List.mem_range.1 hi)).2
end
end Go.Proofs.YtfdofleohichiaaDoor.Cpu
