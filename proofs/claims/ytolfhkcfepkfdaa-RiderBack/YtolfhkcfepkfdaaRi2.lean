/-
  The document's own reader (package spinetref08): Byte, Word, Text.
-/
import Derived.Test.YtolfhkcfepkfdaaRi1
namespace Go.Proofs.Ytolfhkcfepkfdaa.Ri
open Go.RowKit Go.Proofs.Ytolfhkcfepkfdaa.Tx
set_option linter.unusedVariables false
set_option linter.unusedSimpArgs false
set_option maxRecDepth 100000

theorem no_more {s : List UInt8} {p : Nat} {bad : Bool} {n : Nat} (h : bad = true ∨ s.length < p + n) : canB s p bad n = false := by
  rcases h with rfl | h
  · rfl
  · cases bad
    · simp [canB]
      omega
    · rfl
theorem byte_no {W : World} {q p : Nat} {s : List UInt8} {bad : Bool} (r : Rb W q s p bad) (h : bad = true ∨ s.length < p + 1) :
    Calls Try.prog 32 #[.pointer (some ⟨q, 0, none⟩)] W fun e W' => e = .returned (.int .i64 0) ∧ Rb W' q s p true ∧ W.grownBy W' (some q) := by
  have HR := hide (raw_no r ((1 : Nat) : Int) (no_more h))
  clear r h
  go_enter Try.func32, Try.ntmps32
  go_wp2_with (go_at_call 36; refine HR.out.mono ?_; rintro e w1 ⟨rfl, hr, hg⟩; have c2 := hr.c2; have H1 := hide hr; have G1 := hide hg; clear hr hg)
  go_ret
  exact ⟨rfl, H1.out, G1.out⟩
theorem bs_one (c : UInt8) : ∀ h, (bs [c])[0]'h = c := fun h => rfl
theorem byte_yes {W : World} {q p : Nat} {s : List UInt8} {c : UInt8} (r : Rb W q s p false) (h : s[p]? = some c) :
    Calls Try.prog 32 #[.pointer (some ⟨q, 0, none⟩)] W fun e W' => e = .returned (.int .i64 (c.toNat : Int)) ∧ Rb W' q s (p + 1) false ∧ W.grownBy W' (some q) := by
  obtain ⟨hlt, hc⟩ := List.getElem?_eq_some_iff.1 h
  have e1 : (s.drop p).take 1 = [c] := by rw [List.drop_eq_getElem_cons hlt, hc]; rfl
  have HR := hide (e1 ▸ raw_yes r 1 (by omega))
  have hz := bs_size [c]
  have hb := bs_one c
  have hc1 : (c.toNat : Int) < 256 := by have := c.toNat_lt; omega
  clear r h hc hlt e1
  go_enter Try.func32, Try.ntmps32
  go_wp2_with (go_at_call 36; refine HR.out.mono ?_; rintro e w1 ⟨rfl, hr, hg⟩; have c2 := hr.c2; have H1 := hide hr; have G1 := hide hg; clear hr hg)
  go_ret
  exact ⟨by simp, H1.out, G1.out⟩
theorem word_no {W : World} {q p : Nat} {s : List UInt8} {bad : Bool} (r : Rb W q s p bad) (h : bad = true ∨ s.length < p + 4) :
    Calls Try.prog 34 #[.pointer (some ⟨q, 0, none⟩)] W fun e W' => e = .returned (.int .u32 0) ∧ Rb W' q s p true ∧ W.grownBy W' (some q) := by
  have HR := hide (raw_no r ((4 : Nat) : Int) (no_more h))
  clear r h
  go_enter Try.func34, Try.ntmps34
  go_wp2_with (go_at_call 36; refine HR.out.mono ?_; rintro e w1 ⟨rfl, hr, hg⟩; have c2 := hr.c2; have H1 := hide hr; have G1 := hide hg; clear hr hg)
  go_ret
  exact ⟨rfl, H1.out, G1.out⟩
end Go.Proofs.Ytolfhkcfepkfdaa.Ri
