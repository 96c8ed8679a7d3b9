/-
  Lists of words, and lists of steps, among the arguments: what is known of them.
-/
import Derived.Test.YthdmlcendkmnbaaMem8
import Derived.ProofKit
import Derived.OpenShut
import Derived.ShutString
import Derived.ChangeOld
import Derived.Deep.Slices
namespace Go.Proofs.Ythdmlcendkmnbaa.Mem
open Go.ChangeShapes Go.WideShapes Go.ChangeAt Go.RowKit Go.Deep

theorem own : ownKnob Try.prog.godebug = none := by kernel_rfl
theorem laidOut : laidOutB Try.prog = true := by kernel_rfl
theorem cellsS : Try.prog.cellsOf 36 = 5 := by kernel_rfl
theorem cellsI : Try.prog.cellsOf 3 = 1 := by kernel_rfl
theorem cellsU : Try.prog.cellsOf 34 = 1 := by kernel_rfl
/- The argument '.slice ao n cp' is the list of words xs. -/
structure Wl (w : World) (ao : Option Addr) (n cp : Nat) (xs : List Int) : Prop where
  src : Src w ao xs
  len : xs.length = n
  rng : inR xs
  none : ao = .none → cp = 0
  max : n ≤ maxLen
/- One step: its five numbers. -/
structure St where
  k : Int
  p : Int
  v : Int
  i : Int
  n : Int
def stO : St := ⟨0, 0, 0, 0, 0⟩
def St.ok (s : St) : Prop := (Lit.int .i64 s.k).wf = true ∧ (Lit.int .u32 s.p).wf = true ∧ (Lit.int .u32 s.v).wf = true ∧ (Lit.int .i64 s.i).wf = true ∧ (Lit.int .i64 s.n).wf = true
def St.at (s : St) (w : World) (a : Addr) : Prop :=
  w.cell? (a.add 0) = some (.int .i64 s.k) ∧ w.cell? (a.add 1) = some (.int .u32 s.p) ∧ w.cell? (a.add 2) = some (.int .u32 s.v) ∧ w.cell? (a.add 3) = some (.int .i64 s.i) ∧ w.cell? (a.add 4) = some (.int .i64 s.n)
/- The argument '.slice ao n cp' is a list of steps. -/
structure Sl (w : World) (ao : Option Addr) (n : Nat) (f : Nat → St) : Prop where
  at' : ∀ a, ao = some a → ∀ j, j < n → (f j).at w (a.add (j * 5))
  ok : ∀ j, j < n → (f j).ok
  none : ao = .none → n = 0
  max : n ≤ maxLen
section
variable {H : Type} {enc : TypeId × Value → H} {W : World} {base b0 : Nat} {spare : Nat → Bool} {held : Bool} {r : Reach}
theorem open_words {ao : Option Addr} {n cp : Nat} {d : DataW H} {p : List MemPlace} (h : DataW.Trod enc Try.prog W base spare held 22 (.slice ao n cp) d p) : ∃ xs, Wl W ao n cp xs := by
  obtain ⟨fuel, hf⟩ := h
  rcases open_slice1 Try.underlying22 cellsU hf with ⟨hcs, _⟩ | ⟨a, len, cap, m, k, V, D, Pl, hcs, _, hl, hm, hmm, _, hx⟩
  · simp [Value.cells] at hcs
    obtain ⟨rfl, rfl, rfl⟩ := hcs
    exact ⟨[], Src.nil W, rfl, inR_nil, fun _ => rfl, Nat.zero_le _⟩
  · simp [Value.cells] at hcs
    obtain ⟨rfl, rfl, rfl⟩ := hcs
    have hlm : n ≤ m := by rw [hmm]; split <;> omega
    obtain ⟨f, hf⟩ := choose_lt (α := Int) (n := n) (p := fun i x => W.cell? (a.add i) = some (wd x) ∧ 0 ≤ x ∧ x < 4294967296) (fun i hi => by
      obtain ⟨h1, h2⟩ := hx i (by omega)
      obtain ⟨x, e, _, hw⟩ := DataW.trod_int Try.underlying34 h2
      simp at e
      have := bounds_u32 hw
      exact ⟨x, by rw [h1, e], by omega, by omega⟩)
    refine ⟨(List.range n).map f, Src.mk' fun j u hu => ?_, by simp, fun x hx => ?_, fun e => (by cases e), by omega⟩
    · have hj : j < n := by have := (List.getElem?_eq_some_iff.1 hu).1; simpa using this
      simp [hj] at hu
      rw [(hf j hj).1, hu]
    · obtain ⟨i, hi, rfl⟩ := List.mem_map.1 hx
      exact (hf i (List.mem_range.1 hi)).2
theorem open_step {k : Nat} {cs : List Value} {x : DataW H × List MemPlace} {a : Addr} (hb : W.cells? base a 5 = some cs) (h : DataW.trod enc Try.prog W base spare held k 36 cs = some x) :
    ∃ s : St, s.at W a ∧ s.ok := by
  obtain ⟨xs, n, _, hx, hl, hlen, hel⟩ := DataW.trod_struct Try.underlying36 h
  rw [cellsS] at hl
  obtain ⟨_, _, hc⟩ := World.cells?_some hb
  match cs, hl, xs, hlen, hel with
  | [c0, c1, c2, c3, c4], _, [y0, y1, y2, y3, y4], _, hel =>
    have h0 := hel 0 _ rfl
    have h1 := hel 1 _ rfl
    have h2 := hel 2 _ rfl
    have h3 := hel 3 _ rfl
    have h4 := hel 4 _ rfl
    simp [cellsI, cellsU] at h0 h1 h2 h3 h4
    obtain ⟨k, e0, _, w0⟩ := DataW.trod_int Try.underlying3 h0
    obtain ⟨p, e1, _, w1⟩ := DataW.trod_int Try.underlying34 h1
    obtain ⟨v, e2, _, w2⟩ := DataW.trod_int Try.underlying34 h2
    obtain ⟨i, e3, _, w3⟩ := DataW.trod_int Try.underlying3 h3
    obtain ⟨n, e4, _, w4⟩ := DataW.trod_int Try.underlying3 h4
    simp at e0 e1 e2 e3 e4
    subst e0 e1 e2 e3 e4
    exact ⟨⟨k, p, v, i, n⟩, ⟨hc 0 (by decide), hc 1 (by decide), hc 2 (by decide), hc 3 (by decide), hc 4 (by decide)⟩, w0, w1, w2, w3, w4⟩
theorem open_steps {ao : Option Addr} {n cp : Nat} {d : DataW H} {p : List MemPlace} (h : DataW.Trod enc Try.prog W base spare held 23 (.slice ao n cp) d p) : ∃ f, Sl W ao n f := by
  obtain ⟨fuel, hf⟩ := h
  rcases open_slice Try.underlying23 hf with ⟨hcs, _⟩ | ⟨a, len, cap, m, k, D, Pl, hcs, _, hl, hm, hmm, _, hx⟩
  · simp [Value.cells] at hcs
    obtain ⟨rfl, rfl, rfl⟩ := hcs
    exact ⟨fun _ => stO, fun a e => (by cases e), fun j hj => absurd hj (Nat.not_lt_zero _), fun _ => rfl, Nat.zero_le _⟩
  · simp [Value.cells] at hcs
    obtain ⟨rfl, rfl, rfl⟩ := hcs
    have hlm : n ≤ m := by rw [hmm]; split <;> omega
    rw [cellsS] at hx
    haveI : Inhabited St := ⟨stO⟩
    obtain ⟨f, hf⟩ := choose_lt (α := St) (n := n) (p := fun i s => s.at W (a.add (i * 5)) ∧ s.ok) (fun i hi => by
      obtain ⟨cs, h1, h2⟩ := hx i (by omega)
      exact open_step h1 h2)
    exact ⟨f, fun a' e j hj => (by cases e; exact (hf j hj).1), fun j hj => (hf j hj).2, fun e => (by cases e), by omega⟩
end
end Go.Proofs.Ythdmlcendkmnbaa.Mem
