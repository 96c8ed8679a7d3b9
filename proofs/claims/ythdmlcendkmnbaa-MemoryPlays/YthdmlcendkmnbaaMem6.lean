/-
  What the document's own New, Fork and Words answer.
-/
import Derived.Test.YthdmlcendkmnbaaMem5
import Derived.Laws.AppendOwnNone
namespace Go.Proofs.Ythdmlcendkmnbaa.Mem
open Go.RowKit Go.Proofs.Ythdmlcendkmnbaa.Bits

/- 'append([]uint32{}, words...)': a row of its own that begins with the words. -/
theorem arr_own {w : World} {B n : Nat} {v : Value} {xs : List Int} (h : w.ownsRow B 34 1 v n (xs.map wd)) (hr : inR xs) (hn : v ≠ .slice none 0 0) : ∃ b c, v = .slice (some ⟨b, 0, none⟩) n c ∧ B ≤ b ∧ Arr w b c xs := by
  have hl : xs.length = n := by simpa using h.1
  rcases h.2 with ⟨h, _⟩ | ⟨g, cap, cur, rfl, hb, hg, hc, hm, hs, ht⟩
  · exact absurd h hn
  · exact ⟨g, cap, rfl, hb, ⟨cur, hg, by simpa using hs, by rw [hl]; simpa using ht⟩, by omega, hm, hr⟩
theorem wpList_append_src {w w0 : World} {ops : Array Oper} {rest : List Oper} {o : Oper} {a : Act} {Q : Exit → Act → World → Prop} (hgd : o.guard = none) (s x : Operand)
    (ho : o.op = .call { callee := .builtin .append, args := #[s, x], argTypes := #[22, 22] }) (g : Nat) (hs : a.eval s = .slice (some ⟨g, 0, none⟩) 0 0) (hg : w.heap[g]? = some (.cells #[] 34 (0, 0)))
    (ao : Option Addr) (n c : Nat) (hx : a.eval x = .slice ao n c) (xs : List Int) (hsrc : Src w ao xs) (hr : inR xs) (hn : xs.length = n) (hc : ao = none → c = 0) (hlen : n ≤ 1000000000000)
    (B : Nat) (hB : B ≤ g) (hw : Below B w0 w)
    (h : ∀ b c' w', B ≤ b → Arr w' b c' xs → Below B w0 w' → wpList Try.prog ops Q rest (a.put o.dst (.slice (some ⟨b, 0, none⟩) n c')) w') : wpList Try.prog ops Q (o :: rest) a w := by
  obtain ⟨i0, hi, hz0, hz1, hz2⟩ := info_parts Try.info34
  have hgl := lt_of_block hg
  have hown : w.ownsRow B 34 1 (.slice (some ⟨g, 0, none⟩) 0 0) 0 (([] : List Int).map wd) := ⟨by simp, .inr ⟨g, 0, #[], rfl, hB, hg, Nat.le_refl _, by unfold maxLen; omega, by simp, by simp⟩⟩
  cases ao with
  | none =>
    obtain rfl := hsrc.1 rfl
    obtain rfl := hc rfl
    simp at hn
    subst hn
    refine wpList_append_own_none hgd s x 22 ho B 34 i0 1 Try.underlying22 hi _ 0 _ hs hown hx ?_
    obtain ⟨b, c', e, hb, ha⟩ := arr_own hown hr (by simp)
    rw [e]
    exact h b c' w hb ha hw
  | some ad =>
    refine wpList_append_own w hgd s x 22 ho B 34 i0 (.int .u32 0) 1 4 Try.underlying22 hi hz0 hz1 hz2 rfl (by decide) _ 0 _ hs hown ad n c (xs.map wd) hx (by simp [hn]) (hsrc.2 ad rfl) (ints_oneCell .u32 xs) (by unfold maxLen; omega) (by omega) (by omega) ?_
    intro v' w' ho' hg' hv'
    simp only [Nat.zero_add, List.map_nil, List.nil_append] at ho'
    obtain ⟨b, c', rfl, hb, ha⟩ := arr_own ho' hr (fun e => by have := (hv'.1 e).1; cases this)
    exact h b c' w' hb ha (hw.grown hg' (by omega) (fun k hk => by simp [Value.ownBlock] at hk; omega))
theorem rnew_many {w : World} {ao : Option Addr} {n cp : Nat} (hn : 65536 < n) (hm : n ≤ 9223372036854775807) :
    Calls Try.prog 9 #[.slice ao n cp] w fun e w' => e = .returned (.tuple #[.pointer none, .int .i64 3]) ∧ w' = w := by
  go_enter Try.func9, Try.ntmps9
  go_wp2
  go_ret2
  exact ⟨rfl, rfl⟩
theorem rnew_ok {w : World} {ao : Option Addr} {xs : List Int} {n cp : Nat} (hs : Src w ao xs) (hr : inR xs) (hc : ao = none → cp = 0) (hnn : xs.length = n) (hn : n ≤ 65536) :
    Calls Try.prog 9 #[.slice ao n cp] w fun e w' => ∃ a b c, e = .returned (.tuple #[.pointer (some ⟨a, 0, none⟩), .int .i64 0]) ∧ w.grownBy w' none ∧ Mm 52 w' a b c xs ∧ w.heap.size ≤ a ∧ w.heap.size ≤ b := by
  have HN : Hid (xs.length = n) := hnn
  have HS : Hid (Src w ao xs) := hs
  have HR : Hid (inR xs) := hr
  have HC : Hid (ao = none → cp = 0) := hc
  clear hnn hs hr hc
  go_enter Try.func9, Try.ntmps9
  go_wp2_with (at_builtin; refine wpList_append_src (w0 := w) rfl (.tmp 7) (.tmp 8) rfl w.heap.size rfl (heap_alloc_new _ _) _ _ _ rfl xs (HS.out.kept (World.grownBy_alloc _ _ _)) HR.out HN.out HC.out (by omega) w.heap.size (Nat.le_refl _) ((Below.refl _ _).alloc (Nat.le_refl _) _) ?_; intro b c' w1 hb ha hw; have HA := (show Hid _ from ha); clear ha)
  go_ret2
  have hsz := hw.size
  have hm := mm_new (T := 52) HA.out
  rw [HN.out] at hm
  exact ⟨_, _, _, rfl, grown_trans (grown_below hw) (World.grownBy_alloc _ _ _), hm, hsz, hb⟩
theorem rfork_nil (w : World) : Calls Try.prog 24 #[.pointer none] w fun e w' => e = .returned (.pointer none) ∧ w' = w := by
  go_enter Try.func24, Try.ntmps24
  go_wp2
  go_ret
  exact ⟨rfl, rfl⟩
theorem rfork_at {w : World} {a b c : Nat} {xs : List Int} (h : Mm 52 w a b c xs) (hn : xs.length ≤ 65536) :
    Calls Try.prog 24 #[.pointer (some ⟨a, 0, none⟩)] w fun e w' => ∃ a' b' c', e = .returned (.pointer (some ⟨a', 0, none⟩)) ∧ w.grownBy w' none ∧ Mm 52 w' a' b' c' xs ∧ w.heap.size ≤ a' ∧ w.heap.size ≤ b' := by
  obtain ⟨n, hnn⟩ : ∃ n, xs.length = n := ⟨_, rfl⟩
  have HN : Hid (xs.length = n) := hnn
  have HS : Hid (Src w (some ⟨b, 0, none⟩) xs) := h.row.src
  have HR : Hid (inR xs) := h.row.rng
  have hc := h.cell
  have hal := lt_of_block h.head
  rw [hnn] at hn hc
  clear hnn h
  go_enter Try.func24, Try.ntmps24
  go_wp2_with (at_builtin; refine wpList_append_src (w0 := w) rfl (.tmp 5) (.tmp 9) rfl w.heap.size rfl (heap_alloc_new _ _) _ _ _ rfl xs (HS.out.kept (World.grownBy_alloc _ _ _)) HR.out HN.out (fun e => by cases e) (by omega) w.heap.size (Nat.le_refl _) ((Below.refl _ _).alloc (Nat.le_refl _) _) ?_; intro b' c' w1 hb ha hw; have HA := (show Hid _ from ha); clear ha)
  go_ret
  have hsz := hw.size
  have hm := mm_new (T := 52) HA.out
  rw [HN.out] at hm
  exact ⟨_, _, _, rfl, grown_trans (grown_below hw) (World.grownBy_alloc _ _ _), hm, hsz, hb⟩
end Go.Proofs.Ythdmlcendkmnbaa.Mem
