/-
  'append([]uint32{}, words...)': a row of its own that begins with the words.
-/
import Derived.Test.YtfdofleohichiaaDoorMem3
import Derived.Laws.AppendOwnNone
namespace Go.Proofs.YtfdofleohichiaaDoor.Mem
open Go.RowKit Go.Proofs.YtfdofleohichiaaDoor.Bits

/- 'append([]uint32{}, words...)': a row of its own that begins with the words. -/
theorem arr_own {w : World} {B n : Nat} {v : Value} {xs : List Int} (h : w.ownsRow B 32 1 v n (xs.map wd)) (hr : inR xs) (hn : v ≠ .slice none 0 0) : ∃ b c, v = .slice (some ⟨b, 0, none⟩) n c ∧ B ≤ b ∧ Arr w b c xs := by
  have hl : xs.length = n := by simpa using h.1
  rcases h.2 with ⟨h, _⟩ | ⟨g, cap, cur, rfl, hb, hg, hc, hm, hs, ht⟩
  · exact absurd h hn
  · exact ⟨g, cap, rfl, hb, ⟨cur, hg, by simpa using hs, by rw [hl]; simpa using ht⟩, by omega, hm, hr⟩
theorem wpList_append_src {w w0 : World} {ops : Array Oper} {rest : List Oper} {o : Oper} {a : Act} {Q : Exit → Act → World → Prop} (hgd : o.guard = none) (s x : Operand)
    (ho : o.op = .call { callee := .builtin .append, args := #[s, x], argTypes := #[22, 22] }) (g : Nat) (hs : a.eval s = .slice (some ⟨g, 0, none⟩) 0 0) (hg : w.heap[g]? = some (.cells #[] 32 (0, 0)))
    (ao : Option Addr) (n c : Nat) (hx : a.eval x = .slice ao n c) (xs : List Int) (hsrc : Src w ao xs) (hr : inR xs) (hn : xs.length = n) (hc : ao = none → c = 0) (hlen : n ≤ 1000000000000)
    (B : Nat) (hB : B ≤ g) (hw : Below B w0 w)
    (h : ∀ b c' w', B ≤ b → Arr w' b c' xs → Below B w0 w' → wpList Tryd.prog ops Q rest (a.put o.dst (.slice (some ⟨b, 0, none⟩) n c')) w') : wpList Tryd.prog ops Q (o :: rest) a w := by
  obtain ⟨i0, hi, hz0, hz1, hz2⟩ := info_parts Tryd.info34
  have hgl := lt_of_block hg
  have hown : w.ownsRow B 32 1 (.slice (some ⟨g, 0, none⟩) 0 0) 0 (([] : List Int).map wd) := ⟨by simp, .inr ⟨g, 0, #[], rfl, hB, hg, Nat.le_refl _, by unfold maxLen; omega, by simp, by simp⟩⟩
  cases ao with
  | none =>
    obtain rfl := hsrc.1 rfl
    obtain rfl := hc rfl
    simp at hn
    subst hn
    refine wpList_append_own_none hgd s x 22 ho B 32 i0 1 Tryd.underlying22 hi _ 0 _ hs hown hx ?_
    obtain ⟨b, c', e, hb, ha⟩ := arr_own hown hr (by simp)
    rw [e]
    exact h b c' w hb ha hw
  | some ad =>
    refine wpList_append_own w hgd s x 22 ho B 32 i0 (.int .u32 0) 1 4 Tryd.underlying22 hi hz0 hz1 hz2 rfl (by decide) _ 0 _ hs hown ad n c (xs.map wd) hx (by simp [hn]) (hsrc.2 ad rfl) (ints_oneCell .u32 xs) (by unfold maxLen; omega) (by omega) (by omega) ?_
    intro v' w' ho' hg' hv'
    simp only [Nat.zero_add, List.map_nil, List.nil_append] at ho'
    obtain ⟨b, c', rfl, hb, ha⟩ := arr_own ho' hr (fun e => by have := (hv'.1 e).1; cases this)
    exact h b c' w' hb ha (hw.grown hg' (by omega) (fun k hk => by simp [Value.ownBlock] at hk; omega))
end Go.Proofs.YtfdofleohichiaaDoor.Mem
