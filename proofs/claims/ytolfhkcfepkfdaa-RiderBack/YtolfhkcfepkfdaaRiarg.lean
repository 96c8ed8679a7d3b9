/-
  Texts and items among the arguments: what is known of them.
-/
import Derived.Test.YtolfhkcfepkfdaaRi1
import Derived.ProofKit
import Derived.OpenShut
import Derived.ShutString
import Derived.ChangeOld
import Derived.ChangeMaps5
import Derived.Deep.Slices
import Derived.Below
namespace Go.Proofs.Ytolfhkcfepkfdaa.Ri
open Go.ChangeShapes Go.WideShapes Go.ChangeAt Go.RowKit Go.Deep Go.ChangeMaps Go.Proofs.Ytolfhkcfepkfdaa.Tx
set_option maxRecDepth 100000
set_option linter.unusedVariables false

theorem own : ownKnob Try.prog.godebug = none := by kernel_rfl
theorem laidOut : laidOutB Try.prog = true := by kernel_rfl
theorem cellsI : Try.prog.cellsOf 3 = 1 := by kernel_rfl
theorem cellsT : Try.prog.cellsOf 9 = 1 := by kernel_rfl
section
variable {H : Type} {enc : TypeId × Value → H} {W : World} {base b0 : Nat} {spare : Nat → Bool} {held : Bool} {r : Reach}
theorem open_text {v : Value} {d : DataW H} {p : List MemPlace} (hv : Value.okWide Try.prog W r b0 9 v) (h : DataW.Trod enc Try.prog W base spare held 9 v d p) : ∃ s : List UInt8, v = .string (bs s) ∧ s.length ≤ maxLen := by
  obtain ⟨s, rfl, _, _, hz⟩ := open_string Try.underlying9 hv h
  exact ⟨s.data.toList, by rw [bs_of], by rw [Array.length_toList]; exact hz⟩
theorem text_of {fuel : Nat} {cs : List Value} {x : DataW H × List MemPlace} (h : DataW.trod enc Try.prog W base spare held fuel 9 cs = some x) : ∃ s : List UInt8, cs = [.string (bs s)] ∧ s.length ≤ maxLen := by
  obtain ⟨s, e, _, hz⟩ := DataW.trod_string Try.underlying9 h
  exact ⟨s.data.toList, by rw [bs_of]; exact e, by rw [Array.length_toList]; exact hz⟩
theorem cellsS : Try.prog.cellsOf 30 = 3 := by kernel_rfl
/- One item: its kind, number, text. -/
structure It where
  k : Int
  n : Int
  t : List UInt8
def itO : It := ⟨0, 0, []⟩
def It.ok (s : It) : Prop := (Lit.int .i64 s.k).wf = true ∧ (Lit.int .i64 s.n).wf = true ∧ s.t.length ≤ maxLen
def It.at (s : It) (w : World) (a : Addr) : Prop :=
  w.cell? (a.add 0) = some (.int .i64 s.k) ∧ w.cell? (a.add 1) = some (.int .i64 s.n) ∧ w.cell? (a.add 2) = some (.string (bs s.t))
/- The argument '.slice ao n cp' is a list of items. -/
structure Il (w : World) (ao : Option Addr) (n : Nat) (f : Nat → It) : Prop where
  at' : ∀ a, ao = some a → ∀ j, j < n → (f j).at w (a.add (j * 3))
  ok : ∀ j, j < n → (f j).ok
  none : ao = .none → n = 0
  max : n ≤ maxLen
theorem open_item {k : Nat} {cs : List Value} {x : DataW H × List MemPlace} {a : Addr} (hb : W.cells? base a 3 = some cs) (h : DataW.trod enc Try.prog W base spare held k 30 cs = some x) :
    ∃ s : It, s.at W a ∧ s.ok := by
  obtain ⟨xs, n, _, hx, hl, hlen, hel⟩ := DataW.trod_struct Try.underlying30 h
  rw [cellsS] at hl
  obtain ⟨_, _, hc⟩ := World.cells?_some hb
  match cs, hl, xs, hlen, hel with
  | [c0, c1, c2], _, [y0, y1, y2], _, hel =>
    have h0 := hel 0 _ rfl
    have h1 := hel 1 _ rfl
    have h2 := hel 2 _ rfl
    simp [cellsI, cellsT] at h0 h1 h2
    obtain ⟨k, e0, _, w0⟩ := DataW.trod_int Try.underlying3 h0
    obtain ⟨i, e1, _, w1⟩ := DataW.trod_int Try.underlying3 h1
    obtain ⟨v, e2, w2⟩ := text_of h2
    simp at e0 e1 e2
    subst e0 e1 e2
    exact ⟨⟨k, i, v⟩, ⟨hc 0 (by decide), hc 1 (by decide), hc 2 (by decide)⟩, w0, w1, w2⟩
theorem open_items {ao : Option Addr} {n cp : Nat} {d : DataW H} {p : List MemPlace} (h : DataW.Trod enc Try.prog W base spare held 22 (.slice ao n cp) d p) : ∃ f, Il W ao n f := by
  obtain ⟨fuel, hf⟩ := h
  rcases open_slice Try.underlying22 hf with ⟨hcs, _⟩ | ⟨a, len, cap, m, k, D, Pl, hcs, _, hl, hm, hmm, _, hx⟩
  · simp [Value.cells] at hcs
    obtain ⟨rfl, rfl, rfl⟩ := hcs
    exact ⟨fun _ => itO, fun a e => (by cases e), fun j hj => absurd hj (Nat.not_lt_zero _), fun _ => rfl, Nat.zero_le _⟩
  · simp [Value.cells] at hcs
    obtain ⟨rfl, rfl, rfl⟩ := hcs
    have hlm : n ≤ m := by rw [hmm]; split <;> omega
    rw [cellsS] at hx
    haveI : Inhabited It := ⟨itO⟩
    obtain ⟨f, hf⟩ := choose_lt (α := It) (n := n) (p := fun i s => s.at W (a.add (i * 3)) ∧ s.ok) (fun i hi => by
      obtain ⟨cs, h1, h2⟩ := hx i (by omega)
      exact open_item h1 h2)
    exact ⟨f, fun a' e j hj => (by cases e; exact (hf j hj).1), fun j hj => (hf j hj).2, fun e => (by cases e), by omega⟩
end
end Go.Proofs.Ytolfhkcfepkfdaa.Ri
