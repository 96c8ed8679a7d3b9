/-
  Tables of types, rows of numbers, texts among the arguments: what is known of them.
-/
import Derived.Test.YthmldhppmpbadaaTg29
import Derived.Test.YthmldhppmpbadaaY4
import Derived.ProofKit
import Derived.OpenShut
import Derived.ShutString
import Derived.ChangeOld
import Derived.ChangeMaps5
import Derived.Deep.Slices
import Derived.Below
import Derived.SizedLaws
namespace Go.Proofs.Ythmldhppmpbadaa.Ty
open Go.ChangeShapes Go.WideShapes Go.ChangeAt Go.Deep Go.ChangeMaps Go.Proofs.Ythmldhppmpbadaa.Tx Go.Proofs.Ythmldhppmpbadaa.Lx Go.Proofs.Ythmldhppmpbadaa.Tr
open Go.RowKit hiding Hid
set_option maxRecDepth 100000
set_option linter.unusedVariables false
set_option linter.unusedSimpArgs false

theorem own : ownKnob Try.prog.godebug = none := by kernel_rfl
theorem cellsTy : Try.prog.cellsOf 48 = 10 := by kernel_rfl
theorem cellsF : Try.prog.cellsOf 75 = 3 := by kernel_rfl
theorem cellsP : Try.prog.cellsOf 55 = 2 := by kernel_rfl
theorem cellsI : Try.prog.cellsOf 3 = 1 := by kernel_rfl
theorem cellsS : Try.prog.cellsOf 9 = 1 := by kernel_rfl
theorem cellsB : Try.prog.cellsOf 4 = 1 := by kernel_rfl
theorem cellsLF : Try.prog.cellsOf 45 = 1 := by kernel_rfl
theorem cellsLP : Try.prog.cellsOf 46 = 1 := by kernel_rfl
theorem bytesF : Try.prog.bytesOf 75 = 32 := by kernel_rfl
theorem bytesP : Try.prog.bytesOf 55 = 16 := by kernel_rfl
theorem bytesT : Try.prog.bytesOf 48 = 128 := by kernel_rfl
theorem rch_is : reachBytes = rch := by decide
section
variable {H : Type} {enc : TypeId × Value → H} {W : World} {base b0 : Nat} {spare : Nat → Bool} {held : Bool} {r : Reach}
theorem open_text {v : Value} {d : DataW H} {p : List MemPlace} (hv : Value.okWide Try.prog W r b0 9 v) (h : DataW.Trod enc Try.prog W base spare held 9 v d p) : ∃ s : List UInt8, v = .string (bs s) ∧ s.length ≤ maxLen := by
  obtain ⟨s, rfl, _, _, hz⟩ := open_string Try.underlying9 hv h
  exact ⟨s.data.toList, by rw [bs_of], by rw [Array.length_toList]; exact hz⟩
theorem text_of {fuel : Nat} {cs : List Value} {x : DataW H × List MemPlace} (h : DataW.trod enc Try.prog W base spare held fuel 9 cs = some x) : ∃ s : List UInt8, cs = [.string (bs s)] ∧ s.length ≤ maxLen ∧ x.1 = .lit (.string s) := by
  obtain ⟨s, e, e2, hz⟩ := DataW.trod_string Try.underlying9 h
  exact ⟨s.data.toList, by rw [bs_of]; exact e, by rw [Array.length_toList]; exact hz, by rw [e2]⟩
theorem cls_rows {α : Type} [Inhabited α] {enc2 : α → List Value} {k : Nat} (hk : ∀ x, (enc2 x).length = k) (h0 : 0 < k) {a : Addr} {n : Nat} {f : Nat → α} (hf : ∀ i, i < n → ∀ j u, (enc2 (f i))[j]? = some u → W.cell? ((a.add (i * k)).add j) = some u) : Cls W (some a) (((List.range n).map f).flatMap enc2) := by
  intro j u hu
  refine ⟨a, rfl, ?_⟩
  have hj : j < n * k := by
    have := (List.getElem?_eq_some_iff.1 hu).1
    rw [flat_lenV hk] at this
    simpa using this
  have hi : j / k < n := Nat.div_lt_of_lt_mul (by rw [Nat.mul_comm]; exact hj)
  have hx : ((List.range n).map f)[j / k]? = some (f (j / k)) := by simp [hi]
  have hr : j % k < k := Nat.mod_lt _ h0
  obtain ⟨z, hz⟩ : ∃ z, (enc2 (f (j / k)))[j % k]? = some z := ⟨_, List.getElem?_eq_getElem (by rw [hk]; exact hr)⟩
  have := flat_at hk _ _ _ hx _ _ hz
  have e : j / k * k + j % k = j := by rw [Nat.mul_comm]; exact Nat.div_add_mod j k
  rw [e, hu] at this
  injection this with this
  have hc := hf _ hi _ _ hz
  rw [add_add, e] at hc
  rw [this]
  exact hc
theorem wt_all {e : TypeId} : ∀ {l : List (DataW H)} {d : DataW H}, d ∈ l → ∀ n ∈ d.weights Try.prog e, n ∈ DataW.weightsAll Try.prog e l
  | y :: l, d, hd, n, hn => by
    simp only [DataW.weightsAll, List.mem_append]
    rcases List.mem_cons.1 hd with rfl | hd
    · exact .inl hn
    · exact .inr (wt_all hd n hn)
def Wt (t : TypeId) (d : DataW H) : Prop := ∀ n ∈ d.weights Try.prog t, n ≤ reachBytes
theorem wt_of {ts : List TypeId} {ds : List (DataW H)} (h : (DataW.weightsEach Try.prog ts ds).all (· ≤ reachBytes) = true) {j : Nat} {t : TypeId} {d : DataW H} (ht : ts[j]? = some t) (hd : ds[j]? = some d) : Wt t d := fun n hn => by
  have := List.all_eq_true.1 h _ (DataW.weights_mem_each ht hd n hn)
  simpa using this
theorem wt_slice {t e : TypeId} (hu : Try.prog.underlying t = some (.slice e)) {es ss : List (DataW H)} (h : Wt t (.slice es ss)) : (es.length + ss.length) * Try.prog.bytesOf e ≤ reachBytes ∧ ∀ d ∈ es, Wt e d := by
  unfold Wt at h
  refine ⟨h _ (by simp [DataW.weights, hu]), fun d hd n hn => h n ?_⟩
  have := wt_all hd n hn
  simp [DataW.weights, hu, this]
theorem open_fls {k : Nat} {cs : List Value} {x : DataW H × List MemPlace} (h : DataW.trod enc Try.prog W base spare held k 45 cs = some x) (hw : Wt 45 x.1) : ∃ (fo : Option Addr) (fl : List Fl) (fc : Nat), cs = [.slice fo fl.length fc] ∧ Cls W fo (fl.flatMap flC) ∧ (∀ f ∈ fl, f.n.length ≤ maxLen) ∧ (fo = none → fl.length = 0 ∧ fc = 0) ∧ fl.length ≤ rch := by
  rcases open_slice Try.underlying45 h with ⟨hcs, _⟩ | ⟨a, len, cap, m, n, D, Pl, hcs, _, hl, hm, hmm, hxe, hx⟩
  · exact ⟨none, [], 0, hcs, fun j u hu => by simp at hu, by simp, fun _ => ⟨rfl, rfl⟩, Nat.zero_le _⟩
  · subst hcs
    have hlm : len ≤ m := by rw [hmm]; split <;> omega
    rw [cellsF] at hx
    haveI : Inhabited Fl := ⟨⟨[], false, 0⟩⟩
    obtain ⟨f, hf⟩ := choose_lt (α := Fl) (n := len) (p := fun i s => (∀ j u, (flC s)[j]? = some u → W.cell? ((a.add (i * 3)).add j) = some u) ∧ s.n.length ≤ maxLen) (fun i hi => by
      obtain ⟨cs, h1, h2⟩ := hx i (by omega)
      obtain ⟨_, _, hc⟩ := World.cells?_some h1
      obtain ⟨xs, n, _, hxs, hl, hlen, hel⟩ := DataW.trod_struct Try.underlying75 h2
      rw [cellsF] at hl
      match cs, hl, xs, hlen, hel with
      | [c0, c1, c2], _, [y0, y1, y2], _, hel =>
        have h0 := hel 0 _ rfl
        have h1 := hel 1 _ rfl
        have h2 := hel 2 _ rfl
        simp [cellsI, cellsS, cellsB] at h0 h1 h2
        obtain ⟨t, e0, w0, _⟩ := text_of h0
        obtain ⟨b, e1, _⟩ := DataW.trod_bool Try.underlying4 h1
        obtain ⟨i, e2, _, _⟩ := DataW.trod_int Try.underlying3 h2
        simp at e0 e1 e2
        subst e0 e1 e2
        refine ⟨⟨t, b, i⟩, fun j u hu => ?_, w0⟩
        have hj : j < 3 := (List.getElem?_eq_some_iff.1 hu).1
        rw [hc j hj, ← hu]
        rfl)
    refine ⟨some a, (List.range len).map f, cap, by simp, cls_rows flC_len (by decide) (fun i hi => (hf i hi).1), fun g hg => ?_, (fun e => by cases e), ?_⟩
    · obtain ⟨i, hi, rfl⟩ := List.mem_map.1 hg
      exact (hf i (List.mem_range.1 hi)).2
    · rw [hxe] at hw
      have := (wt_slice Try.underlying45 hw).1
      rw [bytesF, List.length_map, List.length_range, rch_is] at this
      rw [List.length_map, List.length_range]
      omega
theorem open_pms {k : Nat} {cs : List Value} {x : DataW H × List MemPlace} (h : DataW.trod enc Try.prog W base spare held k 46 cs = some x) (hw : Wt 46 x.1) : ∃ (fo : Option Addr) (fl : List Pm) (fc : Nat), cs = [.slice fo fl.length fc] ∧ Cls W fo (fl.flatMap pmC) ∧ (fo = none → fl.length = 0 ∧ fc = 0) ∧ fl.length ≤ rch := by
  rcases open_slice Try.underlying46 h with ⟨hcs, _⟩ | ⟨a, len, cap, m, n, D, Pl, hcs, _, hl, hm, hmm, hxe, hx⟩
  · exact ⟨none, [], 0, hcs, fun j u hu => by simp at hu, fun _ => ⟨rfl, rfl⟩, Nat.zero_le _⟩
  · subst hcs
    have hlm : len ≤ m := by rw [hmm]; split <;> omega
    rw [cellsP] at hx
    haveI : Inhabited Pm := ⟨⟨false, 0⟩⟩
    obtain ⟨f, hf⟩ := choose_lt (α := Pm) (n := len) (p := fun i s => (∀ j u, (pmC s)[j]? = some u → W.cell? ((a.add (i * 2)).add j) = some u)) (fun i hi => by
      obtain ⟨cs, h1, h2⟩ := hx i (by omega)
      obtain ⟨_, _, hc⟩ := World.cells?_some h1
      obtain ⟨xs, n, _, hxs, hl, hlen, hel⟩ := DataW.trod_struct Try.underlying55 h2
      rw [cellsP] at hl
      match cs, hl, xs, hlen, hel with
      | [c0, c1], _, [y0, y1], _, hel =>
        have h0 := hel 0 _ rfl
        have h1 := hel 1 _ rfl
        simp [cellsI, cellsB] at h0 h1
        obtain ⟨b, e0, _⟩ := DataW.trod_bool Try.underlying4 h0
        obtain ⟨i, e1, _, _⟩ := DataW.trod_int Try.underlying3 h1
        simp at e0 e1
        subst e0 e1
        refine ⟨⟨b, i⟩, fun j u hu => ?_⟩
        have hj : j < 2 := (List.getElem?_eq_some_iff.1 hu).1
        rw [hc j hj, ← hu]
        rfl)
    refine ⟨some a, (List.range len).map f, cap, by simp, cls_rows pmC_len (by decide) (fun i hi => hf i hi), (fun e => by cases e), ?_⟩
    rw [hxe] at hw
    have := (wt_slice Try.underlying46 hw).1
    rw [bytesP, List.length_map, List.length_range, rch_is] at this
    rw [List.length_map, List.length_range]
    omega
theorem lim_is : maxLen = lim := by decide
theorem open_ty {k : Nat} {cs : List Value} {x : DataW H × List MemPlace} (h : DataW.trod enc Try.prog W base spare held k 48 cs = some x) (hw : Wt 48 x.1) : ∃ a : La, cs = laC a ∧ Rp W a := by
  obtain ⟨xs, n, _, hxe, hl, hlen, hel⟩ := DataW.trod_struct Try.underlying48 h
  rw [hxe] at hw
  unfold Wt at hw
  simp only [DataW.weights, Try.underlying48] at hw
  rw [cellsTy] at hl
  match cs, hl, xs, hlen, hel, hw with
  | [c0, c1, c2, c3, c4, c5, c6, c7, c8, c9], _, [y0, y1, y2, y3, y4, y5, y6, y7, y8, y9], _, hel, hw =>
    have h0 := hel 0 _ rfl
    have h1 := hel 1 _ rfl
    have h2 := hel 2 _ rfl
    have h3 := hel 3 _ rfl
    have h4 := hel 4 _ rfl
    have h5 := hel 5 _ rfl
    have h6 := hel 6 _ rfl
    have h7 := hel 7 _ rfl
    have h8 := hel 8 _ rfl
    have h9 := hel 9 _ rfl
    simp [cellsI, cellsS, cellsLF, cellsLP] at h0 h1 h2 h3 h4 h5 h6 h7 h8 h9
    obtain ⟨i0, e0, _, _⟩ := DataW.trod_int Try.underlying3 h0
    obtain ⟨t1, e1, _, f1⟩ := text_of h1
    obtain ⟨t2, e2, _, f2⟩ := text_of h2
    obtain ⟨i3, e3, _, _⟩ := DataW.trod_int Try.underlying3 h3
    obtain ⟨i4, e4, _, _⟩ := DataW.trod_int Try.underlying3 h4
    obtain ⟨i5, e5, _, _⟩ := DataW.trod_int Try.underlying3 h5
    obtain ⟨i8, e8, _, _⟩ := DataW.trod_int Try.underlying3 h8
    obtain ⟨i9, e9, _, _⟩ := DataW.trod_int Try.underlying3 h9
    have w6 : Wt 45 y6.1 := fun n hn => hw n (DataW.weights_mem_each (j := 6) rfl rfl n hn)
    have w7 : Wt 46 y7.1 := fun n hn => hw n (DataW.weights_mem_each (j := 7) rfl rfl n hn)
    have w1 : t1.length ≤ reachBytes := hw _ (DataW.weights_mem_each (j := 1) (t := 9) (d := y1.1) rfl rfl _ (by rw [f1]; simp [DataW.weights]))
    have w2 : t2.length ≤ reachBytes := hw _ (DataW.weights_mem_each (j := 2) (t := 9) (d := y2.1) rfl rfl _ (by rw [f2]; simp [DataW.weights]))
    obtain ⟨fo, fl, fc, e6, k6, m6, n6, l6⟩ := open_fls h6 w6
    obtain ⟨po, pm, pc, e7, k7, n7, l7⟩ := open_pms h7 w7
    simp at e0 e1 e2 e3 e4 e5 e6 e7 e8 e9
    subst e0 e1 e2 e3 e4 e5 e6 e7 e8 e9
    rw [rch_is] at w1 w2
    exact ⟨⟨⟨i0, t1, t2, i3, i4, i5, fl, pm, i8, i9⟩, fo, fc, po, pc⟩, rfl, k6, k7, ⟨n6, n7⟩, l6, l7, w1, w2, fun f hf => by rw [← lim_is]; exact m6 f hf⟩
theorem open_tys {ao : Option Addr} {n cp : Nat} {d : DataW H} {p : List MemPlace} (h : DataW.Trod enc Try.prog W base spare held 24 (.slice ao n cp) d p) (hw : Wt 24 d) : ∃ l : List La, l.length = n ∧ TabR W ao l ∧ l.length ≤ rch := by
  obtain ⟨fuel, hf⟩ := h
  rcases open_slice Try.underlying24 hf with ⟨hcs, _⟩ | ⟨a, len, cap, m, k, D, Pl, hcs, _, hl, hm, hmm, hxe, hx⟩
  · simp [Value.cells] at hcs
    obtain ⟨rfl, rfl, rfl⟩ := hcs
    exact ⟨[], rfl, ⟨fun j u hu => by simp at hu, by simp⟩, Nat.zero_le _⟩
  · simp [Value.cells] at hcs
    obtain ⟨rfl, rfl, rfl⟩ := hcs
    have hlm : n ≤ m := by rw [hmm]; split <;> omega
    rw [cellsTy] at hx
    have hde : d = .slice ((List.range n).map D) ((List.range (m - n)).map fun j => D (n + j)) := congrArg (·.1) hxe
    rw [hde] at hw
    obtain ⟨hw1, hw2⟩ := wt_slice Try.underlying24 hw
    haveI : Inhabited La := ⟨⟨⟨0, [], [], 0, 0, 0, [], [], 0, 0⟩, none, 0, none, 0⟩⟩
    obtain ⟨f, hf⟩ := choose_lt (α := La) (n := n) (p := fun i s => (∀ j u, (laC s)[j]? = some u → W.cell? ((a.add (i * 10)).add j) = some u) ∧ Rp W s) (fun i hi => by
      obtain ⟨cs, h1, h2⟩ := hx i (by omega)
      obtain ⟨s, e, ho⟩ := open_ty h2 (hw2 _ (List.mem_map.2 ⟨i, List.mem_range.2 hi, rfl⟩))
      subst e
      obtain ⟨_, _, hc⟩ := World.cells?_some h1
      refine ⟨s, fun j u hu => ?_, ho⟩
      have hj : j < 10 := (List.getElem?_eq_some_iff.1 hu).1
      rw [hc j hj, ← hu])
    refine ⟨(List.range n).map f, by simp, ⟨cls_rows laC_len (by decide) (fun i hi => (hf i hi).1), fun t ht => ?_⟩, ?_⟩
    · obtain ⟨i, hi, rfl⟩ := List.mem_map.1 ht
      exact (hf i (List.mem_range.1 hi)).2
    · rw [bytesT, List.length_map, List.length_range, rch_is] at hw1
      rw [List.length_map, List.length_range]
      omega
theorem map_flat : ∀ l : List Int, l.map (Value.int .i64) = l.flatMap (fun s : Int => [Value.int .i64 s])
  | [] => rfl
  | a :: l => by rw [List.map_cons, List.flatMap_cons, map_flat l]; rfl
theorem open_ints {ao : Option Addr} {n cp : Nat} {d : DataW H} {p : List MemPlace} (h : DataW.Trod enc Try.prog W base spare held 69 (.slice ao n cp) d p) : ∃ l : List Int, l.length = n ∧ Cls W ao (l.map (Value.int .i64)) ∧ (ao = none → l.length = 0 ∧ cp = 0) ∧ l.length ≤ maxLen := by
  obtain ⟨fuel, hf⟩ := h
  rcases open_slice Try.underlying69 hf with ⟨hcs, _⟩ | ⟨a, len, cap, m, k, D, Pl, hcs, _, hl, hm, hmm, hxe, hx⟩
  · simp [Value.cells] at hcs
    obtain ⟨rfl, rfl, rfl⟩ := hcs
    exact ⟨[], rfl, fun j u hu => by simp at hu, fun _ => ⟨rfl, rfl⟩, Nat.zero_le _⟩
  · simp [Value.cells] at hcs
    obtain ⟨rfl, rfl, rfl⟩ := hcs
    have hlm : n ≤ m := by rw [hmm]; split <;> omega
    rw [cellsI] at hx
    obtain ⟨f, hf⟩ := choose_lt (α := Int) (n := n) (p := fun i s => ∀ j u, ([Value.int .i64 s])[j]? = some u → W.cell? ((a.add (i * 1)).add j) = some u) (fun i hi => by
      obtain ⟨cs, h1, h2⟩ := hx i (by omega)
      obtain ⟨s, e, _, _⟩ := DataW.trod_int Try.underlying3 h2
      subst e
      obtain ⟨_, _, hc⟩ := World.cells?_some h1
      refine ⟨s, fun j u hu => ?_⟩
      have hj : j < 1 := (List.getElem?_eq_some_iff.1 hu).1
      rw [hc j hj, ← hu])
    refine ⟨(List.range n).map f, by simp, ?_, (fun e => by cases e), by simp; omega⟩
    have := cls_rows (enc2 := fun s : Int => [Value.int .i64 s]) (fun _ => rfl) (by decide) hf
    rw [map_flat]
    exact this
end
end Go.Proofs.Ythmldhppmpbadaa.Ty
