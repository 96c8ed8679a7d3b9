/-
  Texts among the arguments: what is known of them.
-/
import Derived.Test.YtaekljpijnkjoaaDoorSt7
import Derived.ProofKit
import Derived.OpenShut
import Derived.ShutString
import Derived.ChangeOld
import Derived.ChangeMaps5
import Derived.Deep.Slices
import Derived.Below
namespace Go.Proofs.YtaekljpijnkjoaaDoor.St
open Go.ChangeShapes Go.WideShapes Go.ChangeAt Go.RowKit Go.Deep Go.ChangeMaps Go.Proofs.YtaekljpijnkjoaaDoor.Tx
set_option maxRecDepth 100000
set_option linter.unusedVariables false

theorem own : ownKnob Tryd.prog.godebug = none := by kernel_rfl
theorem cellsI : Tryd.prog.cellsOf 3 = 1 := by kernel_rfl
theorem cellsT : Tryd.prog.cellsOf 9 = 1 := by kernel_rfl
section
variable {H : Type} {enc : TypeId × Value → H} {W : World} {base b0 : Nat} {spare : Nat → Bool} {held : Bool} {r : Reach}
theorem open_text {v : Value} {d : DataW H} {p : List MemPlace} (hv : Value.okWide Tryd.prog W r b0 9 v) (h : DataW.Trod enc Tryd.prog W base spare held 9 v d p) : ∃ s : List UInt8, v = .string (bs s) ∧ s.length ≤ maxLen := by
  obtain ⟨s, rfl, _, _, hz⟩ := open_string Tryd.underlying9 hv h
  exact ⟨s.data.toList, by rw [bs_of], by rw [Array.length_toList]; exact hz⟩
theorem okWide_arr {P : Program} {w : World} {r : Reach} {base n : Nat} {t e : TypeId} {v : Value} (ht : P.underlying t = some (.array n e)) (h : Value.okWide P w r base t v) : ∃ cs, v = .agg cs ∧ cs.size = P.cellsOf t := by
  simp only [Value.okWide, ht] at h
  obtain ⟨cs, h1, h2, _⟩ := h
  exact ⟨cs, h1, h2⟩
theorem text_of {fuel : Nat} {cs : List Value} {x : DataW H × List MemPlace} (h : DataW.trod enc Tryd.prog W base spare held fuel 9 cs = some x) : ∃ s : List UInt8, cs = [.string (bs s)] ∧ s.length ≤ maxLen := by
  obtain ⟨s, e, _, hz⟩ := DataW.trod_string Tryd.underlying9 h
  exact ⟨s.data.toList, by rw [bs_of]; exact e, by rw [Array.length_toList]; exact hz⟩
theorem cells2 : Tryd.prog.cellsOf 46 = 2 := by kernel_rfl
theorem open_two {v : Value} {d : DataW H} {p : List MemPlace} (hv : Value.okWide Tryd.prog W r b0 46 v) (h : DataW.Trod enc Tryd.prog W base spare held 46 v d p) :
    ∃ x y : List UInt8, v = .agg #[.string (bs x), .string (bs y)] ∧ x.length ≤ maxLen ∧ y.length ≤ maxLen := by
  obtain ⟨cs, rfl, hsz⟩ := okWide_arr Tryd.underlying46 hv
  obtain ⟨fuel, hf⟩ := h
  obtain ⟨xs, m, _, hx, hlen, hn, hel⟩ := DataW.trod_array Tryd.underlying46 hf
  rw [cells2] at hsz
  rw [cellsT] at hel
  obtain ⟨l⟩ := cs
  match l, hsz, xs, hn, hel with
  | [c0, c1], _, [y0, y1], _, hel =>
    have h0 := hel 0 (by decide)
    have h1 := hel 1 (by decide)
    simp [Value.cells] at h0 h1
    obtain ⟨x, e0, w0⟩ := text_of h0
    obtain ⟨y, e1, w1⟩ := text_of h1
    simp at e0 e1
    subst e0 e1
    exact ⟨x, y, rfl, w0, w1⟩
theorem cellsS : Tryd.prog.cellsOf 30 = 4 := by kernel_rfl
/- One step: its kind, name, text, number. -/
structure Sp where
  k : Int
  n : List UInt8
  t : List UInt8
  m : Int
def spO : Sp := ⟨0, [], [], 0⟩
def Sp.ok (s : Sp) : Prop := (Lit.int .i64 s.k).wf = true ∧ s.n.length ≤ maxLen ∧ s.t.length ≤ maxLen ∧ (Lit.int .i64 s.m).wf = true
def Sp.at (s : Sp) (w : World) (a : Addr) : Prop :=
  w.cell? (a.add 0) = some (.int .i64 s.k) ∧ w.cell? (a.add 1) = some (.string (bs s.n)) ∧ w.cell? (a.add 2) = some (.string (bs s.t)) ∧ w.cell? (a.add 3) = some (.int .i64 s.m)
/- The argument '.slice ao n cp' is a list of steps. -/
structure Sl (w : World) (ao : Option Addr) (n : Nat) (f : Nat → Sp) : Prop where
  at' : ∀ a, ao = some a → ∀ j, j < n → (f j).at w (a.add (j * 4))
  ok : ∀ j, j < n → (f j).ok
  none : ao = .none → n = 0
  max : n ≤ maxLen
theorem open_step {k : Nat} {cs : List Value} {x : DataW H × List MemPlace} {a : Addr} (hb : W.cells? base a 4 = some cs) (h : DataW.trod enc Tryd.prog W base spare held k 30 cs = some x) :
    ∃ s : Sp, s.at W a ∧ s.ok := by
  obtain ⟨xs, n, _, hx, hl, hlen, hel⟩ := DataW.trod_struct Tryd.underlying30 h
  rw [cellsS] at hl
  obtain ⟨_, _, hc⟩ := World.cells?_some hb
  match cs, hl, xs, hlen, hel with
  | [c0, c1, c2, c3], _, [y0, y1, y2, y3], _, hel =>
    have h0 := hel 0 _ rfl
    have h1 := hel 1 _ rfl
    have h2 := hel 2 _ rfl
    have h3 := hel 3 _ rfl
    simp [cellsI, cellsT] at h0 h1 h2 h3
    obtain ⟨k, e0, _, w0⟩ := DataW.trod_int Tryd.underlying3 h0
    obtain ⟨p, e1, w1⟩ := text_of h1
    obtain ⟨v, e2, w2⟩ := text_of h2
    obtain ⟨i, e3, _, w3⟩ := DataW.trod_int Tryd.underlying3 h3
    simp at e0 e1 e2 e3
    subst e0 e1 e2 e3
    exact ⟨⟨k, p, v, i⟩, ⟨hc 0 (by decide), hc 1 (by decide), hc 2 (by decide), hc 3 (by decide)⟩, w0, w1, w2, w3⟩
theorem open_steps {ao : Option Addr} {n cp : Nat} {d : DataW H} {p : List MemPlace} (h : DataW.Trod enc Tryd.prog W base spare held 22 (.slice ao n cp) d p) : ∃ f, Sl W ao n f := by
  obtain ⟨fuel, hf⟩ := h
  rcases open_slice Tryd.underlying22 hf with ⟨hcs, _⟩ | ⟨a, len, cap, m, k, D, Pl, hcs, _, hl, hm, hmm, _, hx⟩
  · simp [Value.cells] at hcs
    obtain ⟨rfl, rfl, rfl⟩ := hcs
    exact ⟨fun _ => spO, fun a e => (by cases e), fun j hj => absurd hj (Nat.not_lt_zero _), fun _ => rfl, Nat.zero_le _⟩
  · simp [Value.cells] at hcs
    obtain ⟨rfl, rfl, rfl⟩ := hcs
    have hlm : n ≤ m := by rw [hmm]; split <;> omega
    rw [cellsS] at hx
    haveI : Inhabited Sp := ⟨spO⟩
    obtain ⟨f, hf⟩ := choose_lt (α := Sp) (n := n) (p := fun i s => s.at W (a.add (i * 4)) ∧ s.ok) (fun i hi => by
      obtain ⟨cs, h1, h2⟩ := hx i (by omega)
      exact open_step h1 h2)
    exact ⟨f, fun a' e j hj => (by cases e; exact (hf j hj).1), fun j hj => (hf j hj).2, fun e => (by cases e), by omega⟩
end
end Go.Proofs.YtaekljpijnkjoaaDoor.St
