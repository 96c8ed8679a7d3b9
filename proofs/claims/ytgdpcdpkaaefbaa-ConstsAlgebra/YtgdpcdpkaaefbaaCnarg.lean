/-
  Texts, constants, rows of constants and of pairs among the arguments: what is known of them.
-/
import Derived.Test.YtgdpcdpkaaefbaaCn19
import Derived.ProofKit
import Derived.OpenShut
import Derived.ShutString
import Derived.ChangeOld
import Derived.ChangeMaps5
import Derived.Deep.Slices
import Derived.Below
namespace Go.Proofs.Ytgdpcdpkaaefbaa.Cn
open Go.ChangeShapes Go.WideShapes Go.ChangeAt Go.Deep Go.ChangeMaps Go.Proofs.Ytgdpcdpkaaefbaa.Tx
open Go.RowKit hiding Hid
set_option maxRecDepth 100000
set_option linter.unusedVariables false

theorem own : ownKnob Try.prog.godebug = none := by kernel_rfl
theorem cellsT : Try.prog.cellsOf 9 = 1 := by kernel_rfl
theorem cellsV : Try.prog.cellsOf 23 = 3 := by kernel_rfl
theorem cellsP : Try.prog.cellsOf 49 = 2 := by kernel_rfl
def Vl.ok (v : Vl) : Prop := (Lit.int .i64 v.f).wf = true ∧ (Lit.int .i64 v.n).wf = true ∧ v.t.length ≤ maxLen
def prOk (p : Pr) : Prop := (Lit.int .i64 p.1).wf = true ∧ (Lit.int .i64 p.2).wf = true
section
variable {H : Type} {enc : TypeId × Value → H} {W : World} {base b0 : Nat} {spare : Nat → Bool} {held : Bool} {r : Reach}
theorem open_text {v : Value} {d : DataW H} {p : List MemPlace} (hv : Value.okWide Try.prog W r b0 9 v) (h : DataW.Trod enc Try.prog W base spare held 9 v d p) : ∃ s : List UInt8, v = .string (bs s) ∧ s.length ≤ maxLen := by
  obtain ⟨s, rfl, _, _, hz⟩ := open_string Try.underlying9 hv h
  exact ⟨s.data.toList, by rw [bs_of], by rw [Array.length_toList]; exact hz⟩
theorem text_of {fuel : Nat} {cs : List Value} {x : DataW H × List MemPlace} (h : DataW.trod enc Try.prog W base spare held fuel 9 cs = some x) : ∃ s : List UInt8, cs = [.string (bs s)] ∧ s.length ≤ maxLen := by
  obtain ⟨s, e, _, hz⟩ := DataW.trod_string Try.underlying9 h
  exact ⟨s.data.toList, by rw [bs_of]; exact e, by rw [Array.length_toList]; exact hz⟩
theorem open_cells {k : Nat} {cs : List Value} {x : DataW H × List MemPlace} (h : DataW.trod enc Try.prog W base spare held k 23 cs = some x) : ∃ v : Vl, cs = vC v ∧ v.ok := by
  obtain ⟨xs, n, _, hx, hl, hlen, hel⟩ := DataW.trod_struct Try.underlying23 h
  rw [cellsV] at hl
  match cs, hl, xs, hlen, hel with
  | [c0, c1, c2], _, [y0, y1, y2], _, hel =>
    have h0 := hel 0 _ rfl
    have h1 := hel 1 _ rfl
    have h2 := hel 2 _ rfl
    simp [cells_i, cellsT] at h0 h1 h2
    obtain ⟨k, e0, _, w0⟩ := DataW.trod_int Try.underlying3 h0
    obtain ⟨i, e1, _, w1⟩ := DataW.trod_int Try.underlying3 h1
    obtain ⟨v, e2, w2⟩ := text_of h2
    simp at e0 e1 e2
    subst e0 e1 e2
    exact ⟨⟨k, i, v⟩, rfl, w0, w1, w2⟩
theorem open_value {x : Value} {d : DataW H} {p : List MemPlace} (hv : Value.okWide Try.prog W r b0 23 x) (h : DataW.Trod enc Try.prog W base spare held 23 x d p) : ∃ v : Vl, x = vV v ∧ v.ok := by
  obtain ⟨cs, rfl, hsz⟩ := okWide_struct Try.underlying23 hv
  obtain ⟨fuel, hf⟩ := h
  obtain ⟨v, e, ho⟩ := open_cells hf
  refine ⟨v, ?_, ho⟩
  obtain ⟨l⟩ := cs
  simp [Value.cells] at e
  subst e
  rfl
theorem pair_cells {k : Nat} {cs : List Value} {x : DataW H × List MemPlace} (h : DataW.trod enc Try.prog W base spare held k 49 cs = some x) : ∃ p : Pr, cs = prC p ∧ prOk p := by
  obtain ⟨xs, m, _, hx, hlen, hn, hel⟩ := DataW.trod_array Try.underlying49 h
  rw [cells_i] at hel
  rw [cellsP] at hlen
  match cs, hlen, xs, hn, hel with
  | [c0, c1], _, [y0, y1], _, hel =>
    have h0 := hel 0 (by decide)
    have h1 := hel 1 (by decide)
    simp at h0 h1
    obtain ⟨x, e0, _, w0⟩ := DataW.trod_int Try.underlying3 h0
    obtain ⟨y, e1, _, w1⟩ := DataW.trod_int Try.underlying3 h1
    simp at e0 e1
    subst e0 e1
    exact ⟨(x, y), rfl, w0, w1⟩
theorem cls_map {α : Type} [Inhabited α] {enc2 : α → List Value} {k : Nat} (hk : ∀ x, (enc2 x).length = k) (h0 : 0 < k) {a : Addr} {n : Nat} {f : Nat → α} (hf : ∀ i, i < n → ∀ j u, (enc2 (f i))[j]? = some u → W.cell? ((a.add (i * k)).add j) = some u) : Cls W (some a) (((List.range n).map f).flatMap enc2) := by
  intro j u hu
  refine ⟨a, rfl, ?_⟩
  have hlen : ∀ l : List α, (l.flatMap enc2).length = l.length * k := by
    intro l
    induction l with
    | nil => simp
    | cons y l ih => rw [List.flatMap_cons, List.length_append, ih, hk, List.length_cons, Nat.succ_mul]; omega
  have hj : j < n * k := by
    have := (List.getElem?_eq_some_iff.1 hu).1
    rw [hlen] at this
    simpa using this
  have hi : j / k < n := Nat.div_lt_of_lt_mul (by rw [Nat.mul_comm]; exact hj)
  have hx : ((List.range n).map f)[j / k]? = some (f (j / k)) := by simp [hi]
  have hr : j % k < k := Nat.mod_lt _ h0
  obtain ⟨z, hz⟩ : ∃ z, (enc2 (f (j / k)))[j % k]? = some z := ⟨_, List.getElem?_eq_getElem (by rw [hk]; exact hr)⟩
  have := flat_at hk _ _ _ hx _ _ hz
  have e : j / k * k + j % k = j := by rw [Nat.mul_comm]; exact Nat.div_add_mod j k
  rw [e, hu] at this
  injection this with this
  have hc := hf _ hi _ _ hz
  rw [add_add, e] at hc
  rw [this]
  exact hc
theorem open_values {ao : Option Addr} {n cp : Nat} {d : DataW H} {p : List MemPlace} (h : DataW.Trod enc Try.prog W base spare held 37 (.slice ao n cp) d p) : ∃ l : List Vl, l.length = n ∧ Cls W ao (l.flatMap vC) ∧ (∀ v ∈ l, v.ok) ∧ n ≤ maxLen ∧ (ao = none → cp = 0) := by
  obtain ⟨fuel, hf⟩ := h
  rcases open_slice Try.underlying37 hf with ⟨hcs, _⟩ | ⟨a, len, cap, m, k, D, Pl, hcs, _, hl, hm, hmm, _, hx⟩
  · simp [Value.cells] at hcs
    obtain ⟨rfl, rfl, rfl⟩ := hcs
    exact ⟨[], rfl, fun j u hu => by simp at hu, fun t ht => (by cases ht), Nat.zero_le _, fun _ => rfl⟩
  · simp [Value.cells] at hcs
    obtain ⟨rfl, rfl, rfl⟩ := hcs
    have hlm : n ≤ m := by rw [hmm]; split <;> omega
    rw [cellsV] at hx
    haveI : Inhabited Vl := ⟨⟨0, 0, []⟩⟩
    obtain ⟨f, hf⟩ := choose_lt (α := Vl) (n := n) (p := fun i s => (∀ j u, (vC s)[j]? = some u → W.cell? ((a.add (i * 3)).add j) = some u) ∧ s.ok) (fun i hi => by
      obtain ⟨cs, h1, h2⟩ := hx i (by omega)
      obtain ⟨v, e, ho⟩ := open_cells h2
      subst e
      obtain ⟨_, _, hc⟩ := World.cells?_some h1
      refine ⟨v, fun j u hu => ?_, ho⟩
      have hj : j < 3 := (List.getElem?_eq_some_iff.1 hu).1
      have := hc j hj
      rw [this, ← hu])
    refine ⟨(List.range n).map f, by simp, cls_map vC_len (by decide) (fun i hi => (hf i hi).1), fun t ht => ?_, by omega, fun e => by cases e⟩
    obtain ⟨i, hi, rfl⟩ := List.mem_map.1 ht
    exact (hf i (List.mem_range.1 hi)).2
theorem open_pairs {ao : Option Addr} {n cp : Nat} {d : DataW H} {p : List MemPlace} (h : DataW.Trod enc Try.prog W base spare held 41 (.slice ao n cp) d p) : ∃ l : List Pr, l.length = n ∧ Cls W ao (l.flatMap prC) ∧ (∀ v ∈ l, prOk v) ∧ n ≤ maxLen ∧ (ao = none → cp = 0) := by
  obtain ⟨fuel, hf⟩ := h
  rcases open_slice Try.underlying41 hf with ⟨hcs, _⟩ | ⟨a, len, cap, m, k, D, Pl, hcs, _, hl, hm, hmm, _, hx⟩
  · simp [Value.cells] at hcs
    obtain ⟨rfl, rfl, rfl⟩ := hcs
    exact ⟨[], rfl, fun j u hu => by simp at hu, fun t ht => (by cases ht), Nat.zero_le _, fun _ => rfl⟩
  · simp [Value.cells] at hcs
    obtain ⟨rfl, rfl, rfl⟩ := hcs
    have hlm : n ≤ m := by rw [hmm]; split <;> omega
    rw [cellsP] at hx
    obtain ⟨f, hf⟩ := choose_lt (α := Pr) (n := n) (p := fun i s => (∀ j u, (prC s)[j]? = some u → W.cell? ((a.add (i * 2)).add j) = some u) ∧ prOk s) (fun i hi => by
      obtain ⟨cs, h1, h2⟩ := hx i (by omega)
      obtain ⟨_, _, hc⟩ := World.cells?_some h1
      obtain ⟨v, e, ho⟩ := pair_cells h2
      subst e
      refine ⟨v, fun j u hu => ?_, ho⟩
      have hj : j < 2 := (List.getElem?_eq_some_iff.1 hu).1
      have := hc j hj
      rw [this, ← hu])
    refine ⟨(List.range n).map f, by simp, cls_map prC_len (by decide) (fun i hi => (hf i hi).1), fun t ht => ?_, by omega, fun e => by cases e⟩
    obtain ⟨i, hi, rfl⟩ := List.mem_map.1 ht
    exact (hf i (List.mem_range.1 hi)).2
end
end Go.Proofs.Ytgdpcdpkaaefbaa.Cn
