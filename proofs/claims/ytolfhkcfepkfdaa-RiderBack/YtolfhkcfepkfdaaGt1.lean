/-
  A reader and the document's own side by side: the same calls tell the same.
-/
import Derived.Test.YtolfhkcfepkfdaaRwk
namespace Go.Proofs.Ytolfhkcfepkfdaa.Ri
open Go.RowKit Go.Proofs.Ytolfhkcfepkfdaa.Tx Go.Proofs.Ytolfhkcfepkfdaa.Bits
set_option linter.unusedVariables false
set_option linter.unusedSimpArgs false
set_option maxRecDepth 100000

/- One call of a reader: what it tells, where it stands, is it bad? -/
def PTo (f : Nat) (a : Array Value) (s : List UInt8) (p : Nat) (bad : Bool) (x : Value) (p' : Nat) (b' : Bool) : Prop :=
  ∀ (W : World) (q : Nat), Pb W q s p bad → Calls Try.prog f (#[.pointer (some ⟨q, 0, none⟩)] ++ a) W fun e W' => e = .returned x ∧ Pb W' q s p' b' ∧ W.grownBy W' (some q)
def RTo (f : Nat) (a : Array Value) (s : List UInt8) (p : Nat) (bad : Bool) (x : Value) (p' : Nat) (b' : Bool) : Prop :=
  ∀ (W : World) (q : Nat), Rb W q s p bad → Calls Try.prog f (#[.pointer (some ⟨q, 0, none⟩)] ++ a) W fun e W' => e = .returned x ∧ Rb W' q s p' b' ∧ W.grownBy W' (some q)
theorem raw_pair (s : List UInt8) (p : Nat) (bad : Bool) (n : Int) : ∃ (x : List UInt8) (p' : Nat) (b' : Bool), PTo 27 #[.int .i64 n] s p bad (.string (bs x)) p' b' ∧ RTo 36 #[.int .i64 n] s p bad (.string (bs x)) p' b' := by
  cases h : canB s p bad n
  · exact ⟨[], p, true, fun W q r => praw_no r n h, fun W q r => raw_no r n h⟩
  · have hb : bad = false := by cases bad <;> simp [canB] at h ⊢
    subst hb
    simp [canB] at h
    obtain ⟨N, rfl⟩ := Int.eq_ofNat_of_zero_le h.1
    exact ⟨(s.drop p).take N, p + N, false, fun W q r => praw_yes r N (by have := r.le; omega), fun W q r => raw_yes r N (by have := r.le; omega)⟩
theorem byte_pair (s : List UInt8) (p : Nat) (bad : Bool) : ∃ (x : Int) (p' : Nat) (b' : Bool), PTo 20 #[] s p bad (.int .i64 x) p' b' ∧ RTo 32 #[] s p bad (.int .i64 x) p' b' := by
  by_cases h : bad = true ∨ s.length < p + 1
  · exact ⟨0, p, true, fun W q r => pbyte_no r h, fun W q r => byte_no r h⟩
  · have hb : bad = false := by cases bad <;> simp at h ⊢
    subst hb
    have hlt : p < s.length := by simp at h; omega
    exact ⟨(s[p].toNat : Int), p + 1, false, fun W q r => pbyte_yes r (List.getElem?_eq_getElem hlt), fun W q r => byte_yes r (List.getElem?_eq_getElem hlt)⟩
theorem four_of {l : List UInt8} (h : 4 ≤ l.length) : ∃ a b c d, l.take 4 = [a, b, c, d] := by
  match l, h with
  | a :: b :: c :: d :: r, _ => exact ⟨a, b, c, d, rfl⟩
  | [], h => simp at h
  | [_], h => simp at h
  | [_, _], h => simp at h
  | [_, _, _], h => simp at h
theorem word_pair (s : List UInt8) (p : Nat) (bad : Bool) : ∃ (x : Int) (p' : Nat) (b' : Bool), PTo 22 #[] s p bad (.int .u32 x) p' b' ∧ RTo 34 #[] s p bad (.int .u32 x) p' b' := by
  by_cases h : bad = true ∨ s.length < p + 4
  · exact ⟨0, p, true, fun W q r => pword_no r h, fun W q r => word_no r h⟩
  · have hb : bad = false := by cases bad <;> simp at h ⊢
    subst hb
    obtain ⟨a, b, c, d, hl⟩ := four_of (l := s.drop p) (by simp at h ⊢; omega)
    exact ⟨wordI a b c d, p + 4, false, fun W q r => pword_yes r hl, fun W q r => word_yes r hl⟩
/- Is there a byte 0 among the next 65, and where is the first? -/
theorem end_or (s : List UInt8) (p : Nat) : noEnd s p ∨ ∃ n : Nat, n ≤ 64 ∧ s[p + n]? = some 0 ∧ ∀ i c, i < n → s[p + i]? = some c → c ≠ 0 := by
  have key : ∀ k : Nat, (∀ i c, i < k → s[p + i]? = some c → c ≠ 0) ∨ ∃ n : Nat, n < k ∧ s[p + n]? = some 0 ∧ ∀ i c, i < n → s[p + i]? = some c → c ≠ 0 := by
    intro k
    induction k with
    | zero => exact .inl (fun i c hi => by omega)
    | succ k ih =>
      rcases ih with h | ⟨n, h1, h2, h3⟩
      · by_cases hk : s[p + k]? = some 0
        · exact .inr ⟨k, by omega, hk, h⟩
        · refine .inl (fun i c hi hc => ?_)
          by_cases hik : i = k
          · subst hik
            intro e
            exact hk (e ▸ hc)
          · exact h i c (by omega) hc
      · exact .inr ⟨n, by omega, h2, h3⟩
  rcases key 65 with h | ⟨n, h1, h2, h3⟩
  · exact .inl (fun i c hi hc => h i c (by omega) hc)
  · exact .inr ⟨n, by omega, h2, h3⟩
theorem text_pair (s : List UInt8) (p : Nat) (bad : Bool) : ∃ (x : List UInt8) (p' : Nat) (b' : Bool), PTo 23 #[] s p bad (.string (bs x)) p' b' ∧ RTo 35 #[] s p bad (.string (bs x)) p' b' := by
  cases bad
  · rcases end_or s p with h | ⟨n, h1, h2, h3⟩
    · exact ⟨[], p, true, fun W q r => ptext_no r (.inr h), fun W q r => text_no r (.inr h)⟩
    · exact ⟨(s.drop p).take n, p + n + 1, false, fun W q r => ptext_yes r h1 h2 h3, fun W q r => text_yes r h1 h2 h3⟩
  · exact ⟨[], p, true, fun W q r => ptext_no r (.inl rfl), fun W q r => text_no r (.inl rfl)⟩
theorem num_pair (s : List UInt8) (p : Nat) (bad : Bool) : ∃ (x : Int) (p' : Nat) (b' : Bool), PTo 21 #[] s p bad (.int .i64 x) p' b' ∧ RTo 33 #[] s p bad (.int .i64 x) p' b' := by
  cases bad
  · obtain ⟨d, c, h⟩ := scan_at s p
    have h1 := fun W q (r : Pb W q s p false) => pnum_run r h
    have h2 := fun W q (r : Rb W q s p false) => rnum_run r h
    cases hR : numR d c with
    | none =>
      rw [hR] at h1 h2
      exact ⟨0, p, true, h1, h2⟩
    | some n =>
      rw [hR] at h1 h2
      exact ⟨n, p + (d.length + 1), false, h1, h2⟩
  · exact ⟨0, p, true, fun W q r => pnum_was r, fun W q r => num_was r⟩
/- End only draws. -/
theorem rend_at {W : World} {q p : Nat} {s : List UInt8} {bad : Bool} (r : Rb W q s p bad) : Calls Try.prog 38 #[.pointer (some ⟨q, 0, none⟩)] W fun e W' => e = .returned (.bool (endB s p bad)) ∧ ∃ d, W' = W.drewN d := by
  have c0 := r.c0
  have c1 := r.c1
  have c2 := r.c2
  have hsz := bs_size s
  have hle := r.le
  have hmax := r.max
  clear r
  cases bad
  · go_enter Try.func38, Try.ntmps38
    go_wp2
    go_quiet (fail)
    go_wp2
    go_ret
    refine ⟨?_, _, rfl⟩
    show Ending.returned (.bool ((p : Int) == (s.length : Int))) = _
    rw [cast_beq]
    rfl
  · go_enter Try.func38, Try.ntmps38
    go_wp2
    go_quiet (fail)
    go_wp2
    go_ret
    exact ⟨rfl, _, rfl⟩
/- Both, side by side, since w began. -/
structure Tr (w W : World) (q g : Nat) (s : List UInt8) (p1 : Nat) (b1 : Bool) (p2 : Nat) (b2 : Bool) : Prop where
  pb : Pb W q s p1 b1
  rb : Rb W g s p2 b2
  gr : w.grownBy W none
  lq : w.heap.size ≤ q
  lg : w.heap.size ≤ g
section
variable {w W W' : World} {q g p1 p2 p' : Nat} {s : List UInt8} {b1 b2 b' : Bool}
theorem Tr.ne (t : Tr w W q g s p1 b1 p2 b2) : q ≠ g := fun e => by
  have h1 := t.pb.head
  have h2 := t.rb.head
  rw [e, h2] at h1
  exact absurd (Obj.cells.inj (Option.some.inj h1)).2.1 (by decide)
theorem Tr.kept (t : Tr w W q g s p1 b1 p2 b2) (h : W.grownBy W' none) : Tr w W' q g s p1 b1 p2 b2 := ⟨t.pb.kept h, t.rb.kept h, grown_trans t.gr h, t.lq, t.lg⟩
theorem Tr.one (t : Tr w W q g s p1 b1 p2 b2) (h : Pb W' q s p' b') (hg : W.grownBy W' (some q)) : Tr w W' q g s p' b' p2 b2 :=
  ⟨h, ⟨(hg.block g (Array.getElem?_eq_some_iff.1 t.rb.head).1 (fun e => t.ne (Option.some.inj e).symm)).trans t.rb.head, t.rb.le, t.rb.max⟩, grown_own t.gr t.lq hg, t.lq, t.lg⟩
theorem Tr.two (t : Tr w W q g s p1 b1 p2 b2) (h : Rb W' g s p' b') (hg : W.grownBy W' (some g)) : Tr w W' q g s p1 b1 p' b' :=
  ⟨⟨(hg.block q t.pb.lt (fun e => t.ne (Option.some.inj e))).trans t.pb.head, t.pb.le, t.pb.max⟩, h, grown_own t.gr t.lg hg, t.lq, t.lg⟩
end
end Go.Proofs.Ytolfhkcfepkfdaa.Ri
