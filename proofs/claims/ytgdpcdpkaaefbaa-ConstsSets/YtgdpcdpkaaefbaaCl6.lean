/-
  Rows of constants and of pairs, copied.
-/
import Derived.Test.YtgdpcdpkaaefbaaCn19
import Derived.Laws.AppendOwnNone
import Derived.OwnWalk
namespace Go.Proofs.Ytgdpcdpkaaefbaa.Cn
open Go.RowKit hiding Hid
open Go.Maps Go.Proofs.Ytgdpcdpkaaefbaa.Tx Go.Proofs.Ytgdpcdpkaaefbaa.Lx Go.Proofs.Ytgdpcdpkaaefbaa.Mp Go.Proofs.Ytgdpcdpkaaefbaa.Bits Go.Proofs.Ytgdpcdpkaaefbaa.Tr Go.Proofs.Ytgdpcdpkaaefbaa.Bm
set_option linter.unusedVariables false
set_option linter.unusedSimpArgs false
set_option maxRecDepth 100000

theorem own_shape {w : World} {B n k : Nat} {e : TypeId} {v : Value} {xs : List Value} (h : w.ownsRow B e k v n xs) : ∃ a c, v = .slice a n c := by
  rcases h.2 with ⟨rfl, h0⟩ | ⟨g, cap, cur, rfl, _⟩
  · exact ⟨none, 0, by rw [h0]⟩
  · exact ⟨_, cap, rfl⟩
theorem own_cls {w : World} {B n k : Nat} {e : TypeId} {o : Option Addr} {m cp : Nat} {xs : List Value} (h : w.ownsRow B e k (.slice o m cp) n xs) (hn : xs.length = n * k) : Cls w o xs := by
  intro j u hu
  have hj := (List.getElem?_eq_some_iff.1 hu).1
  rcases h.2 with ⟨h1, h0⟩ | ⟨g, cap, cur, h1, hb, hg, hc, hm, hs, ht⟩
  · rw [h0, Nat.zero_mul] at hn
    omega
  · cases h1
    refine ⟨_, rfl, ?_⟩
    have ka : (⟨g, 0, none⟩ : Addr).add j = ⟨g, j, none⟩ := by unfold Addr.add; split <;> simp_all
    rw [ka, cell_of_row _ _ _ _ _ _ hg]
    have e2 := congrArg (fun l => l[j]?) ht
    rw [hu, List.getElem?_take, if_pos (by omega), Array.getElem?_toList] at e2
    exact e2
theorem Cx.gnew {w0 w w' : World} {A : Nat → Prop} {L : List Lc} {g : Nat} (H : Cx w0 A none L [] [] w) (hg : w.grownBy w' (some g)) (h0 : w0.heap.size ≤ g) (hn : ∀ p ∈ L, p.b ≠ g) : Cx w0 A none L [] [] w' :=
  ⟨grown_then H.grown hg (fun y e => by cases e; exact .inr h0), fun p hp => by rw [hg.block p.b (H.lt hp) (fun e => hn p hp (by simpa using e))]; exact H.loc p hp, H.old, H.dis, by simp, by simp, List.Pairwise.nil, by simp, fun x e => by cases e⟩
theorem flat_len {α : Type} {enc : α → List Value} {k : Nat} (hk : ∀ x, (enc x).length = k) (l : List α) : (l.flatMap enc).length = l.length * k := by
  induction l with
  | nil => simp
  | cons y l ih => rw [List.flatMap_cons, List.length_append, ih, hk, List.length_cons, Nat.succ_mul]; omega
theorem info_P : (Try.prog.info? 49).map (fun i => (i.zero, i.size, i.bytes)) = some (some (.agg #[.int .i64 0, .int .i64 0]), 2, 16) := by kernel_rfl
theorem one_P {l : List Pr} : ∀ u ∈ l.flatMap prC, u.oneCell' = true := by
  intro u hu
  rw [List.mem_flatMap] at hu
  obtain ⟨t, _, hu⟩ := hu
  simp [prC] at hu
  rcases hu with rfl | rfl <;> rfl
theorem wp_copyP {w : World} {ops : Array Oper} {rest : List Oper} {o : Oper} {a : Act} {Q : Exit → Act → World → Prop} (hgd : o.guard = none) (s x : Operand)
    (ho : o.op = .call { callee := .builtin .append, args := #[s, x], argTypes := #[41, 41] }) (g : Nat) (hs : a.eval s = .slice (some ⟨g, 0, none⟩) 0 0) (hg : w.heap[g]? = some (.cells #[] 49 (0, 0)))
    (ao : Option Addr) (n c : Nat) (hx : a.eval x = .slice ao n c) (l : List Pr) (hsrc : Cls w ao (l.flatMap prC)) (hn : l.length = n) (hc : ao = none → c = 0) (hn0 : ao = none → n = 0) (hlen : n ≤ 100000)
    (B : Nat) (hB : B ≤ g)
    (h : ∀ d c' w', Cls w' d (l.flatMap prC) → w.grownBy w' (some g) → wpList Try.prog ops Q rest (a.put o.dst (.slice d n c')) w') : wpList Try.prog ops Q (o :: rest) a w := by
  obtain ⟨i0, hi, hz0, hz1, hz2⟩ := info_parts info_P
  have hgl := (Array.getElem?_eq_some_iff.1 hg).1
  have hown : w.ownsRow B 49 2 (.slice (some ⟨g, 0, none⟩) 0 0) 0 [] := ⟨by simp, .inr ⟨g, 0, #[], rfl, hB, hg, Nat.le_refl _, by unfold maxLen; omega, by simp, by simp⟩⟩
  cases ao with
  | none =>
    have h0 := hn0 rfl
    have hts : l = [] := List.length_eq_zero_iff.1 (by omega)
    subst hts
    obtain rfl := hc rfl
    subst h0
    refine wpList_append_own_none hgd s x 41 ho B 49 i0 2 Try.underlying41 hi _ 0 _ hs hown hx ?_
    exact h _ _ w (fun j u hu => by simp at hu) ⟨rfl, rfl, rfl, Nat.le_refl _, fun _ _ _ => rfl⟩
  | some ad =>
    refine wpList_append_own w hgd s x 41 ho B 49 i0 _ 2 16 Try.underlying41 hi hz0 hz1 hz2 rfl (by decide) _ 0 _ hs hown ad n c (l.flatMap prC) hx (by rw [flat_len prC_len, hn]) (fun j u hu => by obtain ⟨a2, e, hc2⟩ := hsrc j u hu; cases e; exact hc2) one_P (by unfold maxLen; omega) (by omega) (by omega) ?_
    intro v' w' ho' hg' hv'
    simp only [Nat.zero_add, List.nil_append] at ho'
    obtain ⟨d, c', hv⟩ := own_shape ho'
    subst hv
    exact h d c' w' (own_cls ho' (by rw [flat_len prC_len, hn])) hg'
theorem info_V : (Try.prog.info? 23).map (fun i => (i.zero, i.size, i.bytes)) = some (some (.agg #[.int .i64 0, .int .i64 0, .string ⟨#[]⟩]), 3, 32) := by kernel_rfl
theorem one_V {l : List Vl} : ∀ u ∈ l.flatMap vC, u.oneCell' = true := by
  intro u hu
  rw [List.mem_flatMap] at hu
  obtain ⟨t, _, hu⟩ := hu
  simp [vC] at hu
  rcases hu with rfl | rfl | rfl <;> rfl
theorem wp_copyV {w : World} {ops : Array Oper} {rest : List Oper} {o : Oper} {a : Act} {Q : Exit → Act → World → Prop} (hgd : o.guard = none) (s x : Operand)
    (ho : o.op = .call { callee := .builtin .append, args := #[s, x], argTypes := #[37, 37] }) (g : Nat) (hs : a.eval s = .slice (some ⟨g, 0, none⟩) 0 0) (hg : w.heap[g]? = some (.cells #[] 23 (0, 0)))
    (ao : Option Addr) (n c : Nat) (hx : a.eval x = .slice ao n c) (l : List Vl) (hsrc : Cls w ao (l.flatMap vC)) (hn : l.length = n) (hc : ao = none → c = 0) (hn0 : ao = none → n = 0) (hlen : n ≤ 100000)
    (B : Nat) (hB : B ≤ g)
    (h : ∀ d c' w', Cls w' d (l.flatMap vC) → w.grownBy w' (some g) → wpList Try.prog ops Q rest (a.put o.dst (.slice d n c')) w') : wpList Try.prog ops Q (o :: rest) a w := by
  obtain ⟨i0, hi, hz0, hz1, hz2⟩ := info_parts info_V
  have hgl := (Array.getElem?_eq_some_iff.1 hg).1
  have hown : w.ownsRow B 23 3 (.slice (some ⟨g, 0, none⟩) 0 0) 0 [] := ⟨by simp, .inr ⟨g, 0, #[], rfl, hB, hg, Nat.le_refl _, by unfold maxLen; omega, by simp, by simp⟩⟩
  cases ao with
  | none =>
    have h0 := hn0 rfl
    have hts : l = [] := List.length_eq_zero_iff.1 (by omega)
    subst hts
    obtain rfl := hc rfl
    subst h0
    refine wpList_append_own_none hgd s x 37 ho B 23 i0 3 Try.underlying37 hi _ 0 _ hs hown hx ?_
    exact h _ _ w (fun j u hu => by simp at hu) ⟨rfl, rfl, rfl, Nat.le_refl _, fun _ _ _ => rfl⟩
  | some ad =>
    refine wpList_append_own w hgd s x 37 ho B 23 i0 _ 3 32 Try.underlying37 hi hz0 hz1 hz2 rfl (by decide) _ 0 _ hs hown ad n c (l.flatMap vC) hx (by rw [flat_len vC_len, hn]) (fun j u hu => by obtain ⟨a2, e, hc2⟩ := hsrc j u hu; cases e; exact hc2) one_V (by unfold maxLen; omega) (by omega) (by omega) ?_
    intro v' w' ho' hg' hv'
    simp only [Nat.zero_add, List.nil_append] at ho'
    obtain ⟨d, c', hv⟩ := own_shape ho'
    subst hv
    exact h d c' w' (own_cls ho' (by rw [flat_len vC_len, hn])) hg'
end Go.Proofs.Ytgdpcdpkaaefbaa.Cn
