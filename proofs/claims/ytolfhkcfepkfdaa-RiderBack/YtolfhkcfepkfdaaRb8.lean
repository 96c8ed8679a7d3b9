/-
  Items as bytes, one behind the other; what is read back of them.
-/
import Derived.Test.YtolfhkcfepkfdaaPt1
import Derived.Test.YtolfhkcfepkfdaaGt1
import Derived.Test.YtolfhkcfepkfdaaRiarg
namespace Go.Proofs.Ytolfhkcfepkfdaa.Ri
open Go.RowKit Go.Proofs.Ytolfhkcfepkfdaa.Tx Go.Proofs.Ytolfhkcfepkfdaa.Bits
set_option linter.unusedVariables false
set_option linter.unusedSimpArgs false
set_option maxRecDepth 100000

def encI (x : It) : Option (List UInt8) :=
  if x.k = 0 then some [lo8 x.n] else if x.k = 1 then numO x.n else if x.k = 2 then some (wordL (x.n % 4294967296)) else if x.k = 3 then textO x.t else some []
theorem few_enc (x : It) : few (encI x) := by
  intro e he
  unfold encI at he
  split at he
  · rw [← Option.some.inj he]; simp
  split at he
  · exact few_num _ e he
  split at he
  · rw [← Option.some.inj he]; simp [wordL]
  split at he
  · exact few_text _ e he
  · rw [← Option.some.inj he]; simp
def encK (f : Nat → It) : Nat → Option (List UInt8)
  | 0 => some []
  | k + 1 => match encK f k, encI (f k) with | some a, some e => some (a ++ e) | _, _ => none
theorem encK_succ {f : Nat → It} {k : Nat} {a e : List UInt8} (h1 : encK f k = some a) (h2 : encI (f k) = some e) : encK f (k + 1) = some (a ++ e) := by rw [encK, h1, h2]
theorem encK_cut {f : Nat → It} : ∀ {n k : Nat} {s : List UInt8}, encK f n = some s → k ≤ n → ∃ a r, encK f k = some a ∧ s = a ++ r
  | 0, k, s, h, hk => ⟨s, [], by rw [show k = 0 by omega]; exact h, by simp⟩
  | n + 1, k, s, h, hk => by
    by_cases he : k = n + 1
    · subst he
      exact ⟨s, [], h, by simp⟩
    · rw [encK] at h
      split at h
      · rename_i a e h1 h2
        obtain ⟨b, r, h3, h4⟩ := encK_cut h1 (show k ≤ n by omega)
        exact ⟨b, r ++ e, h3, by rw [← Option.some.inj h, h4, List.append_assoc]⟩
      · cases h
/- At item k the reader stands at its bytes. -/
theorem encK_at {f : Nat → It} {n k : Nat} {s a : List UInt8} (h : encK f n = some s) (hk : k < n) (ha : encK f k = some a) : ∃ e r, encI (f k) = some e ∧ s.drop a.length = e ++ r ∧ encK f (k + 1) = some (a ++ e) := by
  obtain ⟨b, r, h1, h2⟩ := encK_cut h (show k + 1 ≤ n by omega)
  have h3 := h1
  rw [encK, ha] at h3
  cases he : encI (f k) with
  | none => rw [he] at h3; cases h3
  | some e =>
    rw [he] at h3
    have h4 := Option.some.inj h3
    refine ⟨e, r, rfl, ?_, by rw [h1, ← h4]⟩
    rw [h2, ← h4, List.append_assoc, List.drop_left]
theorem rd_byte {s r : List UInt8} {p : Nat} {n : Int} (h : s.drop p = [lo8 n] ++ r) : PTo 20 #[] s p false (.int .i64 (n % 256)) (p + 1) false := fun W q rd => by
  have h1 : s[p]? = some (lo8 n) := by
    have := congrArg (fun l => l[0]?) h
    simpa using this
  have := pbyte_yes rd h1
  rw [lo8_val] at this
  exact this
theorem rd_num {s r e : List UInt8} {p : Nat} {n : Int} (he : numO n = some e) (h : s.drop p = e ++ r) : PTo 21 #[] s p false (.int .i64 n) (p + e.length) false := fun W q rd => by
  unfold numO at he
  split at he
  · rename_i hf
    have he := Option.some.inj he
    rw [← he] at h
    obtain ⟨d, c, hs, hn, hd⟩ := scan_num hf h
    have := pnum_run rd hs
    rw [hn, hd, he] at this
    exact this
  · cases he
theorem word_back (x : Int) (x0 : 0 ≤ x) (x1 : x < 4294967296) : wordI (byI x 0) (byI x 1) (byI x 2) (byI x 3) = x := by
  unfold wordI
  rw [← by_step x x0 x1 0 (by omega), ← by_step x x0 x1 1 (by omega), ← by_step x x0 x1 2 (by omega), ← by_step x x0 x1 3 (by omega)]
  simp only [Int.reducePow]
  omega
theorem rd_word {s r : List UInt8} {p : Nat} {x : Int} (x0 : 0 ≤ x) (x1 : x < 4294967296) (h : s.drop p = wordL x ++ r) : PTo 22 #[] s p false (.int .u32 x) (p + 4) false := fun W q rd => by
  have := pword_yes (a := byI x 0) (b := byI x 1) (c := byI x 2) (d := byI x 3) rd (by rw [h]; rfl)
  rw [word_back x x0 x1] at this
  exact this
theorem rd_text {s r e t : List UInt8} {p : Nat} (he : textO t = some e) (h : s.drop p = e ++ r) : PTo 23 #[] s p false (.string (bs t)) (p + e.length) false := fun W q rd => by
  unfold textO at he
  split at he
  · rename_i hf
    have he := Option.some.inj he
    obtain ⟨h1, h2⟩ := (txB_iff t).1 hf
    subst he
    have hat : ∀ i, s[p + i]? = ((t ++ [0]) ++ r)[i]? := fun i => by rw [← h, List.getElem?_drop]
    have := ptext_yes (n := t.length) rd h1 (by rw [hat]; simp) (fun i c hi hc => by
      rw [hat, List.append_assoc, List.getElem?_append_left hi] at hc
      exact h2 c (List.mem_of_getElem? hc))
    rw [h, List.append_assoc, List.take_left, Nat.add_assoc] at this
    simp only [List.length_append, List.length_cons, List.length_nil]
    exact this
  · cases he
theorem and255 (n : Int) (n0 : -9223372036854775808 ≤ n) (n1 : n ≤ 9223372036854775807) : Go.bits .and .i64 n 255 = n % 256 := by
  show IntKind.i64.wrap ((BitVec.ofInt 64 n &&& BitVec.ofInt 64 255).toNat : Int) = _
  have hA : (BitVec.ofInt 64 n).toNat = (n % 18446744073709551616).toNat := by rw [BitVec.toNat_ofInt]; rfl
  have hB : (BitVec.ofInt 64 255).toNat = 255 := by decide
  rw [BitVec.toNat_and, hA, hB]
  obtain ⟨A, hAe⟩ : ∃ A : Nat, (n % 18446744073709551616).toNat = A := ⟨_, rfl⟩
  rw [hAe]
  have h2 : A &&& 255 = A % 256 := Nat.and_two_pow_sub_one_eq_mod A 8
  rw [h2]
  have h3 : IntKind.i64.wrap ((A % 256 : Nat) : Int) = ((A % 256 : Nat) : Int) := IntWalk.i64_in _ ⟨by omega, by omega⟩
  rw [h3]
  omega
end Go.Proofs.Ytolfhkcfepkfdaa.Ri
