/-
  Texts and tokens among the arguments: what is known of them.
-/
import Derived.Test.YthnkkcamfcmhmaaGreatDoorLr8
import Derived.ProofKit
import Derived.OpenShut
import Derived.ShutString
import Derived.ChangeOld
import Derived.ChangeMaps5
import Derived.Deep.Slices
import Derived.Below
namespace Go.Proofs.YthnkkcamfcmhmaaGreatDoor.Lx
open Go.ChangeShapes Go.WideShapes Go.ChangeAt Go.RowKit Go.Deep Go.ChangeMaps Go.Proofs.YthnkkcamfcmhmaaGreatDoor.Tx
set_option maxRecDepth 100000
set_option linter.unusedVariables false

theorem own : ownKnob Tryz.prog.godebug = none := by kernel_rfl
theorem laidOut : laidOutB Tryz.prog = true := by kernel_rfl
theorem cellsI : Tryz.prog.cellsOf 3 = 1 := by kernel_rfl
theorem cellsT : Tryz.prog.cellsOf 9 = 1 := by kernel_rfl
section
variable {H : Type} {enc : TypeId × Value → H} {W : World} {base b0 : Nat} {spare : Nat → Bool} {held : Bool} {r : Reach}
theorem open_text {v : Value} {d : DataW H} {p : List MemPlace} (hv : Value.okWide Tryz.prog W r b0 9 v) (h : DataW.Trod enc Tryz.prog W base spare held 9 v d p) : ∃ s : List UInt8, v = .string (bs s) ∧ s.length ≤ maxLen := by
  obtain ⟨s, rfl, _, _, hz⟩ := open_string Tryz.underlying9 hv h
  exact ⟨s.data.toList, by rw [bs_of], by rw [Array.length_toList]; exact hz⟩
theorem text_of {fuel : Nat} {cs : List Value} {x : DataW H × List MemPlace} (h : DataW.trod enc Tryz.prog W base spare held fuel 9 cs = some x) : ∃ s : List UInt8, cs = [.string (bs s)] ∧ s.length ≤ maxLen := by
  obtain ⟨s, e, _, hz⟩ := DataW.trod_string Tryz.underlying9 h
  exact ⟨s.data.toList, by rw [bs_of]; exact e, by rw [Array.length_toList]; exact hz⟩
theorem cellsS : Tryz.prog.cellsOf 32 = 4 := by kernel_rfl
def Tk.ok (s : Tk) : Prop := (Lit.int .i64 s.k).wf = true ∧ (Lit.int .i64 s.n).wf = true ∧ (Lit.int .i64 s.a).wf = true ∧ s.t.length ≤ maxLen
theorem open_token {k : Nat} {cs : List Value} {x : DataW H × List MemPlace} {a : Addr} (hb : W.cells? base a 4 = some cs) (h : DataW.trod enc Tryz.prog W base spare held k 32 cs = some x) :
    ∃ s : Tk, TkAt W a s ∧ s.ok := by
  obtain ⟨xs, n, _, hx, hl, hlen, hel⟩ := DataW.trod_struct Tryz.underlying32 h
  rw [cellsS] at hl
  obtain ⟨_, _, hc⟩ := World.cells?_some hb
  match cs, hl, xs, hlen, hel with
  | [c0, c1, c2, c3], _, [y0, y1, y2, y3], _, hel =>
    have h0 := hel 0 _ rfl
    have h1 := hel 1 _ rfl
    have h2 := hel 2 _ rfl
    have h3 := hel 3 _ rfl
    simp [cellsI, cellsT] at h0 h1 h2 h3
    obtain ⟨k, e0, _, w0⟩ := DataW.trod_int Tryz.underlying3 h0
    obtain ⟨v, e1, w1⟩ := text_of h1
    obtain ⟨i, e2, _, w2⟩ := DataW.trod_int Tryz.underlying3 h2
    obtain ⟨p, e3, _, w3⟩ := DataW.trod_int Tryz.underlying3 h3
    simp at e0 e1 e2 e3
    subst e0 e1 e2 e3
    exact ⟨⟨k, v, i, p⟩, ⟨hc 0 (by decide), hc 1 (by decide), hc 2 (by decide), hc 3 (by decide)⟩, w0, w2, w3, w1⟩
theorem open_tokens {ao : Option Addr} {n cp : Nat} {d : DataW H} {p : List MemPlace} (h : DataW.Trod enc Tryz.prog W base spare held 22 (.slice ao n cp) d p) : ∃ ts : List Tk, ts.length = n ∧ TkS W ao ts ∧ (∀ t ∈ ts, t.ok) ∧ n ≤ maxLen := by
  obtain ⟨fuel, hf⟩ := h
  rcases open_slice Tryz.underlying22 hf with ⟨hcs, _⟩ | ⟨a, len, cap, m, k, D, Pl, hcs, _, hl, hm, hmm, _, hx⟩
  · simp [Value.cells] at hcs
    obtain ⟨rfl, rfl, rfl⟩ := hcs
    exact ⟨[], rfl, ⟨fun a e => (by cases e), fun _ => rfl⟩, fun t ht => (by cases ht), Nat.zero_le _⟩
  · simp [Value.cells] at hcs
    obtain ⟨rfl, rfl, rfl⟩ := hcs
    have hlm : n ≤ m := by rw [hmm]; split <;> omega
    rw [cellsS] at hx
    haveI : Inhabited Tk := ⟨⟨0, [], 0, 0⟩⟩
    obtain ⟨f, hf⟩ := choose_lt (α := Tk) (n := n) (p := fun i s => TkAt W (a.add (i * 4)) s ∧ s.ok) (fun i hi => by
      obtain ⟨cs, h1, h2⟩ := hx i (by omega)
      exact open_token h1 h2)
    refine ⟨(List.range n).map f, by simp, ⟨fun a' e j hj => ?_, fun e => (by cases e)⟩, fun t ht => ?_, by omega⟩
    · cases e
      have hj' : j < n := by simpa using hj
      rw [List.getElem_map, List.getElem_range]
      exact (hf j hj').1
    · obtain ⟨i, hi, rfl⟩ := List.mem_map.1 ht
      exact (hf i (List.mem_range.1 hi)).2
end
end Go.Proofs.YthnkkcamfcmhmaaGreatDoor.Lx
