/-
  Texts, rows of texts and of calls among the arguments: what is known of them.
-/
import Derived.Test.YtmoekalagollhaaSw4
import Derived.ProofKit
import Derived.OpenShut
import Derived.ShutString
import Derived.ChangeOld
import Derived.ChangeMaps5
import Derived.Deep.Slices
import Derived.Below
import Derived.SizedLaws
namespace Go.Proofs.Ytmoekalagollhaa.So
open Go.ChangeShapes Go.WideShapes Go.ChangeAt Go.Deep Go.ChangeMaps Go.Proofs.Ytmoekalagollhaa.Tx Go.Proofs.Ytmoekalagollhaa.Lx Go.Proofs.Ytmoekalagollhaa.Tr Go.Proofs.Ytmoekalagollhaa.Ty
open Go.RowKit hiding Hid
set_option maxRecDepth 100000
set_option linter.unusedVariables false
set_option linter.unusedSimpArgs false

theorem own : ownKnob Try.prog.godebug = none := by kernel_rfl
theorem cellsI2 : Try.prog.cellsOf 3 = 1 := by kernel_rfl
theorem cellsS2 : Try.prog.cellsOf 9 = 1 := by kernel_rfl
theorem cellsStp : Try.prog.cellsOf 44 = 3 := by kernel_rfl
theorem flat_lenV {α : Type} {enc : α → List Value} {k : Nat} (h : ∀ x, (enc x).length = k) (l : List α) : (l.flatMap enc).length = l.length * k := by
  induction l with
  | nil => simp
  | cons x l ih => rw [List.flatMap_cons, List.length_append, h, ih, List.length_cons, Nat.succ_mul]; omega
/- A call: its kind, its name, its number. -/
structure Sp3 where
  k : Int
  s : Nm
  n : Int
def spC (x : Sp3) : List Value := [.int .i64 x.k, .string (bs x.s), .int .i64 x.n]
theorem spC_len (x : Sp3) : (spC x).length = 3 := rfl
def txC (s : Nm) : List Value := [.string (bs s)]
theorem txC_len (s : Nm) : (txC s).length = 1 := rfl
structure Sp3.ok (x : Sp3) : Prop where
  s : x.s.length ≤ maxLen
  k : (Lit.int .i64 x.k).wf = true
  n : (Lit.int .i64 x.n).wf = true
section
variable {H : Type} {enc : TypeId × Value → H} {W : World} {base b0 : Nat} {spare : Nat → Bool} {held : Bool} {r : Reach}
theorem open_text {v : Value} {d : DataW H} {p : List MemPlace} (hv : Value.okWide Try.prog W r b0 9 v) (h : DataW.Trod enc Try.prog W base spare held 9 v d p) : ∃ s : List UInt8, v = .string (bs s) ∧ s.length ≤ maxLen := by
  obtain ⟨s, rfl, _, _, hz⟩ := open_string Try.underlying9 hv h
  exact ⟨s.data.toList, by rw [bs_of], by rw [Array.length_toList]; exact hz⟩
theorem text_of {fuel : Nat} {cs : List Value} {x : DataW H × List MemPlace} (h : DataW.trod enc Try.prog W base spare held fuel 9 cs = some x) : ∃ s : List UInt8, cs = [.string (bs s)] ∧ s.length ≤ maxLen ∧ x.1 = .lit (.string s) := by
  obtain ⟨s, e, e2, hz⟩ := DataW.trod_string Try.underlying9 h
  exact ⟨s.data.toList, by rw [bs_of]; exact e, by rw [Array.length_toList]; exact hz, by rw [e2]⟩
theorem cls_rows {α : Type} [Inhabited α] {enc2 : α → List Value} {k : Nat} (hk : ∀ x, (enc2 x).length = k) (h0 : 0 < k) {a : Addr} {n : Nat} {f : Nat → α} (hf : ∀ i, i < n → ∀ j u, (enc2 (f i))[j]? = some u → W.cell? ((a.add (i * k)).add j) = some u) : Cls W (some a) (((List.range n).map f).flatMap enc2) := by
  intro j u hu
  refine ⟨a, rfl, ?_⟩
  have hj : j < n * k := by
    have := (List.getElem?_eq_some_iff.1 hu).1
    rw [flat_lenV hk] at this
    simpa using this
  have hi : j / k < n := Nat.div_lt_of_lt_mul (by rw [Nat.mul_comm]; exact hj)
  have hx : ((List.range n).map f)[j / k]? = some (f (j / k)) := by simp [hi]
  have hr : j % k < k := Nat.mod_lt _ h0
  obtain ⟨z, hz⟩ : ∃ z, (enc2 (f (j / k)))[j % k]? = some z := ⟨_, List.getElem?_eq_getElem (by rw [hk]; exact hr)⟩
  have := flat_at hk _ _ _ hx _ _ hz
  have e : j / k * k + j % k = j := by rw [Nat.mul_comm]; exact Nat.div_add_mod j k
  rw [e, hu] at this
  injection this with this
  have hc := hf _ hi _ _ hz
  rw [Go.Deep.add_add, e] at hc
  rw [this]
  exact hc
theorem open_texts {ao : Option Addr} {n cp : Nat} {d : DataW H} {p : List MemPlace} (h : DataW.Trod enc Try.prog W base spare held 54 (.slice ao n cp) d p) : ∃ l : List Nm, l.length = n ∧ Cls W ao (l.flatMap txC) ∧ (∀ s ∈ l, s.length ≤ maxLen) ∧ l.length ≤ maxLen := by
  obtain ⟨fuel, hf⟩ := h
  rcases open_slice Try.underlying54 hf with ⟨hcs, _⟩ | ⟨a, len, cap, m, k, D, Pl, hcs, _, hl, hm, hmm, hxe, hx⟩
  · simp [Value.cells] at hcs
    obtain ⟨rfl, rfl, rfl⟩ := hcs
    exact ⟨[], rfl, fun j u hu => by simp at hu, by simp, Nat.zero_le _⟩
  · simp [Value.cells] at hcs
    obtain ⟨rfl, rfl, rfl⟩ := hcs
    have hlm : n ≤ m := by rw [hmm]; split <;> omega
    rw [cellsS2] at hx
    obtain ⟨f, hf⟩ := choose_lt (α := Nm) (n := n) (p := fun i s => (∀ j u, (txC s)[j]? = some u → W.cell? ((a.add (i * 1)).add j) = some u) ∧ s.length ≤ maxLen) (fun i hi => by
      obtain ⟨cs, h1, h2⟩ := hx i (by omega)
      obtain ⟨s, e, hs, _⟩ := text_of h2
      subst e
      obtain ⟨_, _, hc⟩ := World.cells?_some h1
      refine ⟨s, fun j u hu => ?_, hs⟩
      have hj : j < 1 := (List.getElem?_eq_some_iff.1 hu).1
      rw [hc j hj, ← hu]
      rfl)
    refine ⟨(List.range n).map f, by simp, cls_rows txC_len (by decide) (fun i hi => (hf i hi).1), fun s hs => ?_, by simp; omega⟩
    obtain ⟨i, hi, rfl⟩ := List.mem_map.1 hs
    exact (hf i (List.mem_range.1 hi)).2
theorem open_steps {ao : Option Addr} {n cp : Nat} {d : DataW H} {p : List MemPlace} (h : DataW.Trod enc Try.prog W base spare held 38 (.slice ao n cp) d p) : ∃ l : List Sp3, l.length = n ∧ Cls W ao (l.flatMap spC) ∧ (∀ x ∈ l, x.ok) ∧ l.length ≤ maxLen := by
  obtain ⟨fuel, hf⟩ := h
  rcases open_slice Try.underlying38 hf with ⟨hcs, _⟩ | ⟨a, len, cap, m, k, D, Pl, hcs, _, hl, hm, hmm, hxe, hx⟩
  · simp [Value.cells] at hcs
    obtain ⟨rfl, rfl, rfl⟩ := hcs
    exact ⟨[], rfl, fun j u hu => by simp at hu, by simp, Nat.zero_le _⟩
  · simp [Value.cells] at hcs
    obtain ⟨rfl, rfl, rfl⟩ := hcs
    have hlm : n ≤ m := by rw [hmm]; split <;> omega
    rw [cellsStp] at hx
    haveI : Inhabited Sp3 := ⟨⟨0, [], 0⟩⟩
    obtain ⟨f, hf⟩ := choose_lt (α := Sp3) (n := n) (p := fun i s => (∀ j u, (spC s)[j]? = some u → W.cell? ((a.add (i * 3)).add j) = some u) ∧ s.ok) (fun i hi => by
      obtain ⟨cs, h1, h2⟩ := hx i (by omega)
      obtain ⟨_, _, hc⟩ := World.cells?_some h1
      obtain ⟨xs, n, _, hxs, hl, hlen, hel⟩ := DataW.trod_struct Try.underlying44 h2
      rw [cellsStp] at hl
      match cs, hl, xs, hlen, hel with
      | [c0, c1, c2], _, [y0, y1, y2], _, hel =>
        have h0 := hel 0 _ rfl
        have h1 := hel 1 _ rfl
        have h2 := hel 2 _ rfl
        simp [cellsI2, cellsS2] at h0 h1 h2
        obtain ⟨i0, e0, _, w0⟩ := DataW.trod_int Try.underlying3 h0
        obtain ⟨t, e1, wt, _⟩ := text_of h1
        obtain ⟨i2, e2, _, w2⟩ := DataW.trod_int Try.underlying3 h2
        simp at e0 e1 e2
        subst e0 e1 e2
        refine ⟨⟨i0, t, i2⟩, fun j u hu => ?_, ⟨wt, w0, w2⟩⟩
        have hj : j < 3 := (List.getElem?_eq_some_iff.1 hu).1
        rw [hc j hj, ← hu]
        rfl)
    refine ⟨(List.range n).map f, by simp, cls_rows spC_len (by decide) (fun i hi => (hf i hi).1), fun s hs => ?_, by simp; omega⟩
    obtain ⟨i, hi, rfl⟩ := List.mem_map.1 hs
    exact (hf i (List.mem_range.1 hi)).2
end
end Go.Proofs.Ytmoekalagollhaa.So
