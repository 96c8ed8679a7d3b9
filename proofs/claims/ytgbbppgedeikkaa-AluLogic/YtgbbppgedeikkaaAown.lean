/-
  Blocks of a law's own: what lies in them stays, however the world grows.
-/
import Derived.Test.YtgbbppgedeikkaaAargs
import Derived.Test.YtgbbppgedeikkaaAlu4
namespace Go.Proofs.Ytgbbppgedeikkaa.Alu
open Go.RowKit Go.Proofs.Ytgbbppgedeikkaa.Bits Go.Proofs.Ytgbbppgedeikkaa.Gw

def Own (t : TypeId) (w : World) (b : Nat) (cs : Array Value) : Prop := w.heap[b]? = some (.cells cs t)
theorem Own.lt {t : TypeId} {w : World} {b : Nat} {cs : Array Value} (h : Own t w b cs) : b < w.heap.size := by
  unfold Own at h
  exact (Array.getElem?_eq_some_iff.1 h).1
theorem Own.new (t : TypeId) (w : World) (cs : Array Value) : Own t (w.alloc (.cells cs t)) w.heap.size cs := by
  show (w.heap.push _)[w.heap.size]? = _
  simp
theorem Own.g {t : TypeId} {w w' : World} (hg : ∃ p : By, w' = gr w p) {b : Nat} {cs : Array Value} (h : Own t w b cs) : Own t w' b cs := by
  obtain ⟨p, rfl⟩ := hg
  have hb := h.lt
  unfold Own at *
  rw [gr_old w p hb]; exact h
theorem Own.alloc {t : TypeId} {w : World} {b : Nat} {cs : Array Value} (h : Own t w b cs) (c : Array Value) (t' : TypeId) : Own t (w.alloc (.cells c t')) b cs := h.g ((G.refl _).alloc _ _)
theorem Own.drew {t : TypeId} {w : World} {b : Nat} {cs : Array Value} (h : Own t w b cs) : Own t w.drew b cs := h
theorem Own.cell {t : TypeId} {w : World} {b : Nat} {cs : Array Value} (h : Own t w b cs) (i : Nat) {v : Value} (hv : cs[i]? = some v) : w.cell? ⟨b, i, none⟩ = some v := by
  unfold Own at h
  simp [World.cell?, h, hv]
theorem Own.ask {t : TypeId} {w : World} {s : Nat} {c0 c1 c2 c3 c4 c5 c6 c7 c8 : Value} (h : Own t w s #[c0, c1, c2, c3, c4, c5, c6, c7, c8]) :
    s < w.heap.size ∧ w.cell? ⟨s, 0, none⟩ = some c0 ∧ w.cell? ⟨s, 1, none⟩ = some c1 ∧ w.cell? ⟨s, 2, none⟩ = some c2 ∧ w.cell? ⟨s, 3, none⟩ = some c3 ∧ w.cell? ⟨s, 4, none⟩ = some c4 ∧
      w.cell? ⟨s, 5, none⟩ = some c5 ∧ w.cell? ⟨s, 6, none⟩ = some c6 ∧ w.cell? ⟨s, 7, none⟩ = some c7 ∧ w.cell? ⟨s, 8, none⟩ = some c8 :=
  ⟨h.lt, h.cell 0 rfl, h.cell 1 rfl, h.cell 2 rfl, h.cell 3 rfl, h.cell 4 rfl, h.cell 5 rfl, h.cell 6 rfl, h.cell 7 rfl, h.cell 8 rfl⟩
theorem Own.fl {t : TypeId} {w : World} {s : Nat} {c0 c1 c2 c3 : Value} (h : Own t w s #[c0, c1, c2, c3]) :
    s < w.heap.size ∧ w.cell? ⟨s, 0, none⟩ = some c0 ∧ w.cell? ⟨s, 1, none⟩ = some c1 ∧ w.cell? ⟨s, 2, none⟩ = some c2 ∧ w.cell? ⟨s, 3, none⟩ = some c3 :=
  ⟨h.lt, h.cell 0 rfl, h.cell 1 rfl, h.cell 2 rfl, h.cell 3 rfl⟩
theorem Own.told {t : TypeId} {w : World} {s : Nat} {c0 c1 c2 c3 c4 c5 c6 : Value} (h : Own t w s #[c0, c1, c2, c3, c4, c5, c6]) :
    s < w.heap.size ∧ w.cell? ⟨s, 0, none⟩ = some c0 ∧ w.cell? ⟨s, 1, none⟩ = some c1 ∧ w.cell? ⟨s, 2, none⟩ = some c2 ∧ w.cell? ⟨s, 3, none⟩ = some c3 ∧ w.cell? ⟨s, 4, none⟩ = some c4 ∧
      w.cell? ⟨s, 5, none⟩ = some c5 ∧ w.cell? ⟨s, 6, none⟩ = some c6 :=
  ⟨h.lt, h.cell 0 rfl, h.cell 1 rfl, h.cell 2 rfl, h.cell 3 rfl, h.cell 4 rfl, h.cell 5 rfl, h.cell 6 rfl⟩
theorem G.then {a b c : World} (h : G a b) (k : ∃ p : By, c = Gw.gr b p) : G a c := h.trans k
end Go.Proofs.Ytgbbppgedeikkaa.Alu
