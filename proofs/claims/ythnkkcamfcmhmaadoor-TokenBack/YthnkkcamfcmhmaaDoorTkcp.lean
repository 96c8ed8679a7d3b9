/-
  Tokens copied: 'append([]api.Token{}, l...)'; what Text's answer says.
-/
import Derived.Test.YthnkkcamfcmhmaaDoorTklg
import Derived.Test.YthnkkcamfcmhmaaDoorLx6
import Derived.Test.YthnkkcamfcmhmaaDoorLr15
import Derived.Laws.AppendOwnNone
namespace Go.Proofs.YthnkkcamfcmhmaaDoor.Lx
open Go.ChangeShapes Go.WideShapes Go.ChangeAt Go.RowKit Go.Deep Go.ChangeMaps Go.Proofs.YthnkkcamfcmhmaaDoor.Tx
set_option linter.unusedVariables false
set_option linter.unusedSimpArgs false
set_option maxRecDepth 100000

theorem add_add (a : Addr) (x y : Nat) : (a.add x).add y = a.add (x + y) := by
  unfold Addr.add
  by_cases hx : x = 0 <;> by_cases hy : y = 0 <;> simp [hx, hy, Nat.add_assoc]
theorem tks_cells {w : World} {ad : Addr} {ts : List Tk} (h : TkS w (some ad) ts) : ∀ (j : Nat) (u : Value), (tkL ts)[j]? = some u → w.cell? (ad.add j) = some u := by
  intro j u hj
  have hlt : j < ts.length * 4 := by
    have := (List.getElem?_eq_some_iff.1 hj).1
    rwa [tkL_len] at this
  have hi : j / 4 < ts.length := by omega
  have e : j / 4 * 4 + j % 4 = j := by omega
  have t := h.at' ad rfl (j / 4) hi
  have hc := tkL_at ts (j / 4) hi (j % 4) (by omega)
  rw [e, hj] at hc
  have r4 : j % 4 = 0 ∨ j % 4 = 1 ∨ j % 4 = 2 ∨ j % 4 = 3 := by omega
  obtain ⟨t0, t1, t2, t3⟩ := t
  rw [add_add] at t0 t1 t2 t3
  rcases r4 with r | r | r | r
  · rw [r] at hc e
    rw [e] at t0
    rw [t0]; simpa [tkC] using hc.symm
  · rw [r] at hc e
    rw [e] at t1
    rw [t1]; simpa [tkC] using hc.symm
  · rw [r] at hc e
    rw [e] at t2
    rw [t2]; simpa [tkC] using hc.symm
  · rw [r] at hc e
    rw [e] at t3
    rw [t3]; simpa [tkC] using hc.symm
theorem tkL_one (ts : List Tk) : ∀ u ∈ tkL ts, u.oneCell' = true := by
  intro u hu
  simp only [tkL, List.mem_flatMap] at hu
  obtain ⟨t, _, hu⟩ := hu
  simp [tkC] at hu
  rcases hu with rfl | rfl | rfl | rfl <;> rfl
theorem wp_copyT {w : World} {ops : Array Oper} {rest : List Oper} {o : Oper} {a : Act} {Q : Exit → Act → World → Prop} (hgd : o.guard = none) (s x : Operand)
    (ho : o.op = .call { callee := .builtin .append, args := #[s, x], argTypes := #[23, 23] }) (g : Nat) (hs : a.eval s = .slice (some ⟨g, 0, none⟩) 0 0) (hg : w.heap[g]? = some (.cells #[] 37 (0, 0)))
    (ao : Option Addr) (n c : Nat) (hx : a.eval x = .slice ao n c) (ts : List Tk) (hsrc : TkS w ao ts) (hn : ts.length = n) (hc : ao = none → c = 0) (hlen : n ≤ 100000)
    (B : Nat) (hB : B ≤ g)
    (h : ∀ d c' w', w'.ownsRow B 37 4 (.slice d n c') n (tkL ts) → w.grownBy w' (some g) → wpList Tryd.prog ops Q rest (a.put o.dst (.slice d n c')) w') : wpList Tryd.prog ops Q (o :: rest) a w := by
  obtain ⟨i0, hi, hz0, hz1, hz2⟩ := info_parts info_tok
  have hgl := (Array.getElem?_eq_some_iff.1 hg).1
  have hown : w.ownsRow B 37 4 (.slice (some ⟨g, 0, none⟩) 0 0) 0 [] := ⟨by simp, .inr ⟨g, 0, #[], rfl, hB, hg, Nat.le_refl _, by unfold maxLen; omega, by simp, by simp⟩⟩
  cases ao with
  | none =>
    have h0 := hsrc.nil' rfl
    have hts : ts = [] := List.length_eq_zero_iff.1 h0
    subst hts
    obtain rfl := hc rfl
    simp at hn
    subst hn
    refine wpList_append_own_none hgd s x 23 ho B 37 i0 4 Tryd.underlying23 hi _ 0 _ hs hown hx ?_
    exact h _ _ w hown ⟨rfl, rfl, rfl, Nat.le_refl _, fun _ _ _ => rfl⟩
  | some ad =>
    refine wpList_append_own w hgd s x 23 ho B 37 i0 _ 4 40 Tryd.underlying23 hi hz0 hz1 hz2 rfl (by decide) _ 0 _ hs hown ad n c (tkL ts) hx (by rw [tkL_len, hn]) (tks_cells hsrc) (tkL_one ts) (by unfold maxLen; omega) (by omega) (by omega) ?_
    intro v' w' ho' hg' hv'
    simp only [Nat.zero_add, List.nil_append] at ho'
    obtain ⟨d, c', hv⟩ := own_shape4 ho'
    subst hv
    exact h d c' w' ho' hg'
theorem textT_err {ts : List Tk} (h : (textT ts).2 ≠ 0) : (textT ts).1 = [] := by
  unfold textT at h ⊢
  split
  · rfl
  · rename_i h1
    rw [if_neg h1] at h
    split
    · rename_i h2
      rw [if_pos h2] at h
      split
      · rfl
      · rename_i h3
        rw [if_neg h3] at h
        exact absurd rfl h
    · rfl
theorem textT_ok {ts : List Tk} (h : (textT ts).2 = 0) : (textT ts).1 = joinT ts ∧ ts.length ≤ 6000 ∧ (∀ t ∈ ts, goodT t = true) ∧ (joinT ts).length ≤ 16384 := by
  unfold textT at h ⊢
  split
  · rename_i h1
    rw [if_pos h1] at h
    cases h
  · rename_i h1
    rw [if_neg h1] at h
    split
    · rename_i h2
      rw [if_pos h2] at h
      split
      · rename_i h3
        rw [if_pos h3] at h
        cases h
      · exact ⟨rfl, by omega, List.all_eq_true.1 h2, by omega⟩
    · rename_i h2
      rw [if_neg h2] at h
      cases h
theorem open_tokens2 {H : Type} {enc : TypeId × Value → H} {W : World} {base : Nat} {spare : Nat → Bool} {held : Bool} {ao : Option Addr} {n cp : Nat} {d : DataW H} {p : List MemPlace} (h : DataW.Trod enc Tryd.prog W base spare held 23 (.slice ao n cp) d p) : ∃ ts : List Tk, ts.length = n ∧ TkS W ao ts ∧ (∀ t ∈ ts, t.ok) ∧ n ≤ maxLen ∧ (ao = none → cp = 0) := by
  obtain ⟨ts, h1, h2, h3, h4⟩ := open_tokens h
  refine ⟨ts, h1, h2, h3, h4, fun e => ?_⟩
  subst e
  obtain ⟨fuel, hf⟩ := h
  rcases open_slice Tryd.underlying23 hf with ⟨hcs, _⟩ | ⟨a, len, cap, m, k, D, Pl, hcs, _⟩
  · simp [Value.cells] at hcs
    exact hcs.2
  · simp [Value.cells] at hcs
end Go.Proofs.YthnkkcamfcmhmaaDoor.Lx
