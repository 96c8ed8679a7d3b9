/-
  Package rider's writer: Text; of nil, too.
-/
import Derived.Test.YtolfhkcfepkfdaaPw2
import Derived.Test.YtolfhkcfepkfdaaPr3
namespace Go.Proofs.Ytolfhkcfepkfdaa.Ri
open Go.RowKit Go.Proofs.Ytolfhkcfepkfdaa.Tx Go.Proofs.Ytolfhkcfepkfdaa.Bits
set_option linter.unusedVariables false
set_option linter.unusedSimpArgs false
set_option maxRecDepth 100000

/- '[]byte(t)'. -/
theorem conv_text (W : World) (t : List UInt8) : ∃ (C : Nat) (U : World), (convert 9 26 (.string (bs t))).run Try.prog W = .ok (.slice (some ⟨W.heap.size, 0, none⟩) t.length C) U ∧ W.grownBy U none ∧ At8 U W.heap.size t := by
  refine ⟨_, _, Lib.run_convert_string_bytes (P := Try.prog) W 9 26 5 (bs t) Try.underlying9 Try.underlying26 Try.underlying5, ⟨rfl, rfl, rfl, by rw [Lib.bytesWorld_size]; omega, fun i hi _ => Lib.bytesWorld_at_old _ _ _ _ hi⟩, ?_⟩
  intro j u hj
  have hlt : j < t.length := by have := (List.getElem?_eq_some_iff.1 hj).1; simpa using this
  have k : (⟨W.heap.size, 0, none⟩ : Addr).add j = ⟨W.heap.size, j, none⟩ := by unfold Addr.add; split <;> simp_all
  rw [List.getElem?_map, List.getElem?_eq_getElem hlt] at hj
  simp at hj
  subst hj
  rw [k, Lib.bytesWorld_cell _ _ _ _ hlt]
  show some (Value.int .u8 ((t.getD j 0).toNat : Int)) = some (b8 t[j])
  simp [List.getD, List.getElem?_eq_getElem hlt, b8]
section
variable {W W1 : World} {B q : Nat} {v v1 : Value} {xs ys : List UInt8} {sp : Bool}
/- A text that a writer takes. -/
def okT (t : List UInt8) : Prop := t.length ≤ 64 ∧ ∀ c ∈ t, c ≠ 0
theorem not_okT {t : List UInt8} (h : ¬ okT t) : 64 < t.length ∨ (t.length ≤ 64 ∧ ∃ n : Nat, t[n]? = some 0 ∧ ∀ i c, i < n → t[i]? = some c → c ≠ 0) := by
  by_cases hl : t.length ≤ 64
  · refine .inr ⟨hl, ?_⟩
    have hz : (0 : UInt8) ∈ t := by
      by_cases hz : (0 : UInt8) ∈ t
      · exact hz
      · exact absurd ⟨hl, fun c hc e => hz (e ▸ hc)⟩ h
    clear h hl
    induction t with
    | nil => simp at hz
    | cons b t ih =>
      by_cases hb : b = 0
      · exact ⟨0, by simp [hb], fun i c hi => by omega⟩
      · obtain ⟨n, h1, h2⟩ := ih (by simpa [Ne.symm hb] using hz)
        refine ⟨n + 1, by simpa using h1, fun i c hi hc => ?_⟩
        cases i with
        | zero => simp at hc; exact hc ▸ hb
        | succ i => exact h2 i c (by omega) (by simpa using hc)
  · exact .inl (by omega)
theorem pwtext_no (r : Ww W B q v xs sp) (t : List UInt8) (ht : t.length ≤ 1000000) (h : ¬ okT t) :
    Calls Try.prog 19 #[.pointer (some ⟨q, 0, none⟩), .string (bs t)] W fun e W' => e = .returned (.tuple #[]) ∧ ∃ v', Ww W' B q v' [] true ∧ Wst W W' q v v' := by
  have HS := hide (spoil_at r)
  have hsz := bs_size t
  clear r
  rcases not_okT h with h1 | ⟨h1, n, h2, h3⟩
  · have j1 : (64 : Int) < t.length := by omega
    have j2 : (t.length : Int) ≤ 1000000 := by omega
    clear h
    go_enter Try.func19, Try.ntmps19
    go_wp2_with (go_at_call 41; refine HS.out.mono ?_; rintro e w1 ⟨rfl, h1, h2⟩; have H1 := hide h1; have S1 := hide h2; clear h1 h2)
    ((try simp only [Exit.inBlock, Exit.then]); refine bodyPost_ret (results_none rfl _ _ _) rfl ?_)
    exact ⟨rfl, _, H1.out, S1.out⟩
  · have j1 : ¬ (64 : Int) < t.length := by omega
    have HIB := hide (ib_is (W := W) (idx_at t n h2 h3))
    clear h h2 h3
    go_enter Try.func19, Try.ntmps19
    go_wp2_with (first | (go_at_call 43; refine HIB.out.mono ?_; rintro e w' ⟨rfl, hw⟩; replace hw := hw.symm; subst hw) | (go_at_call 41; refine HS.out.mono ?_; rintro e w1 ⟨rfl, h1, h2⟩; have H1 := hide h1; have S1 := hide h2; clear h1 h2))
    ((try simp only [Exit.inBlock, Exit.then]); refine bodyPost_ret (results_none rfl _ _ _) rfl ?_)
    exact ⟨rfl, _, H1.out, S1.out⟩
set_option maxHeartbeats 1000000 in
theorem pwtext_yes (r : Ww W B q v xs sp) (hl : xs.length ≤ 100000) (hB : B ≤ W.heap.size) (t : List UInt8) (h : okT t) :
    Calls Try.prog 19 #[.pointer (some ⟨q, 0, none⟩), .string (bs t)] W fun e W' => e = .returned (.tuple #[]) ∧ ∃ v', Ww W' B q v' (nxA xs sp (t ++ [0])) sp ∧ Wst W W' q v v' := by
  have HR := hide r
  have hsz := bs_size t
  have j1 : ¬ (64 : Int) < t.length := by have := h.1; omega
  have HIB := hide (ib_is (W := W) (idx_no t h.2))
  have HT := hide h.1
  have HL := hide hl
  obtain ⟨C, U, hcv, hg, ha⟩ := conv_text W t
  have HG := hide hg
  have HA := hide ha
  clear r h hg ha hl
  go_enter Try.func19, Try.ntmps19
  go_wp2_with (first
    | (go_at_call 43; refine HIB.out.mono ?_; rintro e w' ⟨rfl, hw⟩; replace hw := hw.symm; subst hw)
    | (go_at_call 39; refine (put_one H1.out (by have := nxA_len xs sp t; have := HL.out; have := HT.out; omega) (Nat.le_trans hB S1.out.size) 0).mono ?_; rintro e w2 ⟨rfl, v2, h1, h2⟩; have H2 := hide h1; have S2 := hide (S1.out.then h2); clear h1 h2)
    | (go_at_call 39; refine (put_any (HR.out.kept HG.out) (by have := HL.out; omega) (Nat.le_trans hB HG.out.size) W.heap.size C t (by have := HT.out; omega) HA.out).mono ?_; rintro e w1 ⟨rfl, v1, h1, h2⟩; have H1 := hide h1; have S1 := hide ((Wst.of_g HG.out).then h2); clear h1 h2))
  go_end0
  exact ⟨rfl, _, by rw [← nxA_then]; exact H2.out, S2.out⟩
theorem pwtext_nil (W : World) (t : List UInt8) (ht : t.length ≤ maxLen) : Calls Try.prog 19 #[.pointer none, .string (bs t)] W fun e W' => e = .returned (.tuple #[]) ∧ W.grownBy W' none := by
  have hsz := bs_size t
  have hg0 : W.grownBy W none := ⟨rfl, rfl, rfl, Nat.le_refl _, fun _ _ _ => rfl⟩
  have l0 : (t.length : Int) ≤ 9223372036854775807 := by unfold maxLen at ht; omega
  by_cases h : okT t
  · have j1 : ¬ (64 : Int) < t.length := by have := h.1; omega
    have HIB := hide (ib_is (W := W) (idx_no t h.2))
    obtain ⟨C, U, hcv, hg, ha⟩ := conv_text W t
    have HG := hide hg
    clear h hg ha ht
    go_enter Try.func19, Try.ntmps19
    go_wp2_with (first | (go_at_call 43; refine HIB.out.mono ?_; rintro e w' ⟨rfl, hw⟩; replace hw := hw.symm; subst hw) | (go_at_call 39; refine (put_nil _ _).mono ?_; rintro e w' ⟨rfl, hw⟩; replace hw := hw.symm; subst hw))
    go_end0
    exact ⟨rfl, grown_trans HG.out (alloc_g _ _)⟩
  · rcases not_okT h with h1 | ⟨h1, n, h2, h3⟩
    · have j1 : (64 : Int) < t.length := by omega
      have HG := hide hg0
      clear h hg0 ht
      go_enter Try.func19, Try.ntmps19
      go_wp2_with (go_at_call 41; refine (spoil_nil _).mono ?_; rintro e w' ⟨rfl, hw⟩; replace hw := hw.symm; subst hw)
      ((try simp only [Exit.inBlock, Exit.then]); refine bodyPost_ret (results_none rfl _ _ _) rfl ?_)
      exact ⟨rfl, HG.out⟩
    · have j1 : ¬ (64 : Int) < t.length := by omega
      have HIB := hide (ib_is (W := W) (idx_at t n h2 h3))
      have HG := hide hg0
      clear h hg0 h2 h3 ht
      go_enter Try.func19, Try.ntmps19
      go_wp2_with (first | (go_at_call 43; refine HIB.out.mono ?_; rintro e w' ⟨rfl, hw⟩; replace hw := hw.symm; subst hw) | (go_at_call 41; refine (spoil_nil _).mono ?_; rintro e w' ⟨rfl, hw⟩; replace hw := hw.symm; subst hw))
      ((try simp only [Exit.inBlock, Exit.then]); refine bodyPost_ret (results_none rfl _ _ _) rfl ?_)
      exact ⟨rfl, HG.out⟩
end
end Go.Proofs.Ytolfhkcfepkfdaa.Ri
