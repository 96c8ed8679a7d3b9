/-
  What is known of the laws' arguments: lists of words, strings, pairs of numbers.
-/
import Derived.Test.YtjneaphlghfbhaaDoorCrep
import Derived.Test.YtjneaphlghfbhaaDoorRargs
import Derived.ProofKit
import Derived.OpenShut
import Derived.ShutString
import Derived.ChangeOld
import Derived.ChangeMaps5
import Derived.Deep.Slices
import Derived.Below
namespace Go.Proofs.YtjneaphlghfbhaaDoor.Cpu
open Go.ChangeShapes Go.WideShapes Go.ChangeAt Go.RowKit Go.Deep Go.Proofs.YtjneaphlghfbhaaDoor.Mem
set_option maxRecDepth 100000

theorem laidOut : laidOutB Tryd.prog = true := by kernel_rfl
theorem cellsU : Tryd.prog.cellsOf 37 = 1 := by kernel_rfl
theorem cellsI : Tryd.prog.cellsOf 3 = 1 := by kernel_rfl
/- The argument '.slice ao n cp' is the list of words xs. -/
structure Wl (w : World) (ao : Option Addr) (n cp : Nat) (xs : List Int) : Prop where
  src : Src w ao xs
  len : xs.length = n
  rng : inR xs
  none : ao = .none → cp = 0
  max : n ≤ maxLen
section
variable {H : Type} {enc : TypeId × Value → H} {W : World} {base b0 : Nat} {spare : Nat → Bool} {held : Bool} {r : Reach}
theorem open_words {ao : Option Addr} {n cp : Nat} {d : DataW H} {p : List MemPlace} (h : DataW.Trod enc Tryd.prog W base spare held 22 (.slice ao n cp) d p) : ∃ xs, Wl W ao n cp xs := by
  obtain ⟨fuel, hf⟩ := h
  rcases open_slice1 Tryd.underlying22 cellsU hf with ⟨hcs, _⟩ | ⟨a, len, cap, m, k, V, D, Pl, hcs, _, hl, hm, hmm, _, hx⟩
  · simp [Value.cells] at hcs
    obtain ⟨rfl, rfl, rfl⟩ := hcs
    exact ⟨[], Src.nil W, rfl, inR_nil, fun _ => rfl, Nat.zero_le _⟩
  · simp [Value.cells] at hcs
    obtain ⟨rfl, rfl, rfl⟩ := hcs
    have hlm : n ≤ m := by rw [hmm]; split <;> omega
    obtain ⟨f, hf⟩ := choose_lt (α := Int) (n := n) (p := fun i x => W.cell? (a.add i) = some (wd x) ∧ 0 ≤ x ∧ x < 4294967296) (fun i hi => by
      obtain ⟨h1, h2⟩ := hx i (by omega)
      obtain ⟨x, e, _, hw⟩ := DataW.trod_int Tryd.underlying37 h2
      simp at e
      have := bounds_u32 hw
      exact ⟨x, by rw [h1, e], by omega, by omega⟩)
    refine ⟨(List.range n).map f, Src.mk' fun j u hu => ?_, by simp, fun x hx => ?_, fun e => (by cases e), by omega⟩
    · have hj : j < n := by have := (List.getElem?_eq_some_iff.1 hu).1; simpa using this
      simp [hj] at hu
      rw [(hf j hj).1, hu]
    · obtain ⟨i, hi, rfl⟩ := List.mem_map.1 hx
      exact (hf i (List.mem_range.1 hi)).2
theorem cellsP : Tryd.prog.cellsOf 23 = 2 := by kernel_rfl
theorem okWide_arr {P : Program} {w : World} {r : Reach} {base n : Nat} {t e : TypeId} {v : Value} (ht : P.underlying t = some (.array n e)) (h : Value.okWide P w r base t v) : ∃ cs, v = .agg cs ∧ cs.size = P.cellsOf t := by
  simp only [Value.okWide, ht] at h
  obtain ⟨cs, h1, h2, _⟩ := h
  exact ⟨cs, h1, h2⟩
theorem open_pair {v : Value} {d : DataW H} {p : List MemPlace} (hv : Value.okWide Tryd.prog W r b0 23 v) (h : DataW.Trod enc Tryd.prog W base spare held 23 v d p) :
    ∃ x y : Int, v = .agg #[.int .i64 x, .int .i64 y] ∧ (Lit.int .i64 x).wf = true ∧ (Lit.int .i64 y).wf = true := by
  obtain ⟨cs, rfl, hsz⟩ := okWide_arr Tryd.underlying23 hv
  obtain ⟨fuel, hf⟩ := h
  obtain ⟨xs, m, _, hx, hlen, hn, hel⟩ := DataW.trod_array Tryd.underlying23 hf
  rw [cellsP] at hsz
  rw [cellsI] at hel
  obtain ⟨l⟩ := cs
  match l, hsz, xs, hn, hel with
  | [c0, c1], _, [y0, y1], _, hel =>
    have h0 := hel 0 (by decide)
    have h1 := hel 1 (by decide)
    simp [Value.cells] at h0 h1
    obtain ⟨x, e0, _, w0⟩ := DataW.trod_int Tryd.underlying3 h0
    obtain ⟨y, e1, _, w1⟩ := DataW.trod_int Tryd.underlying3 h1
    simp at e0 e1
    subst e0 e1
    exact ⟨x, y, rfl, w0, w1⟩
end
end Go.Proofs.YtjneaphlghfbhaaDoor.Cpu
