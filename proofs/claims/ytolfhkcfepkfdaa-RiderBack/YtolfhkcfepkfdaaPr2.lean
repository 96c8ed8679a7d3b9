/-
  Package rider's reader: Word, Text; strings.IndexByte of a byte 0.
-/
import Derived.Test.YtolfhkcfepkfdaaPr1
import Derived.Test.YtolfhkcfepkfdaaMath
import Derived.BigCall
namespace Go.Proofs.Ytolfhkcfepkfdaa.Ri
open Go.RowKit Go.Proofs.Ytolfhkcfepkfdaa.Tx Go.Proofs.Ytolfhkcfepkfdaa.Bm
set_option linter.unusedVariables false
set_option linter.unusedSimpArgs false
set_option maxRecDepth 100000

theorem idx_no : ∀ l : List UInt8, (∀ c ∈ l, c ≠ 0) → Lib.indexByte l 0 = -1
  | [], _ => rfl
  | b :: l, h => by
    have hb : (b == 0) = false := by simpa using h b List.mem_cons_self
    have ih := idx_no l (fun c hc => h c (List.mem_cons_of_mem _ hc))
    simp [Lib.indexByte, hb, ih]
theorem idx_at : ∀ (l : List UInt8) (n : Nat), l[n]? = some 0 → (∀ i c, i < n → l[i]? = some c → c ≠ 0) → Lib.indexByte l 0 = n
  | [], n, h, _ => by simp at h
  | b :: l, 0, h, _ => by
    simp at h
    simp [Lib.indexByte, h]
  | b :: l, n + 1, h, hz => by
    have hb : (b == 0) = false := by simpa using hz 0 b (by omega) rfl
    have ih := idx_at l n (by simpa using h) (fun i c hi hc => hz (i + 1) c (by omega) (by simpa using hc))
    have h1 : ((n : Int) == -1) = false := by simp
    simp [Lib.indexByte, hb, ih, h1]
set_option maxHeartbeats 1000000 in
theorem sib_any (l : List UInt8) (W : World) : Calls Try.prog 54 #[.string (bs l), .int .u8 0] W fun e W' => e = .returned (.int .i64 (Lib.indexByte l 0)) ∧ W' = W := by
  go_enter Try.func54, Try.ntmps54
  go_wp2
  rw [run_callFunc_extern Try.func59 (by kernel_rfl) (by kernel_rfl) (by kernel_rfl) (e := Extern.BytealgIndexByte.indexByte) (by kernel_rfl), Lib.run_indexByteString]
  simp only [Result.andThen]
  rw [Oper.upon_value]
  go_wp2
  go_ret
  exact ⟨rfl, rfl⟩
theorem ib_any (l : List UInt8) (W : World) : Calls Try.prog 43 #[.string (bs l), .int .u8 0] W fun e W' => e = .returned (.int .i64 (Lib.indexByte l 0)) ∧ W' = W := by
  go_enter Try.func43, Try.ntmps43
  go_wp2_with (go_at_call 54; refine (sib_any l _).mono ?_; rintro e w' ⟨rfl, hw⟩; replace hw := hw.symm; subst hw)
  go_ret
  exact ⟨rfl, rfl⟩
theorem or_sum (x y : Int) (k : Nat) (x0 : 0 ≤ x) (x1 : x < 2 ^ k) (y0 : 0 ≤ y) (hy : y * 2 ^ k < 4294967296) (hk : k ≤ 32) : Go.bits .or .u32 x (y * 2 ^ k) = x + y * 2 ^ k := by
  obtain ⟨X, rfl⟩ := Int.eq_ofNat_of_zero_le x0
  obtain ⟨Y, rfl⟩ := Int.eq_ofNat_of_zero_le y0
  have h1 : X < 2 ^ k := by have := p2cast k; omega
  have h2 := p2le32 hk
  have e : (Y : Int) * 2 ^ k = ((Y * 2 ^ k : Nat) : Int) := by simp
  rw [e] at hy ⊢
  rw [u32_or_nat _ _ (by omega) (by omega), or_join k Y X h1]
  simp
section
variable {W : World} {q p : Nat} {s : List UInt8} {bad : Bool}
theorem pword_no (r : Pb W q s p bad) (h : bad = true ∨ s.length < p + 4) :
    Calls Try.prog 22 #[.pointer (some ⟨q, 0, none⟩)] W fun e W' => e = .returned (.int .u32 0) ∧ Pb W' q s p true ∧ W.grownBy W' (some q) := by
  have HRW := hide (praw_no r ((4 : Nat) : Int) (no_more h))
  have hz : (bs []).size = 0 := rfl
  clear r h
  go_enter Try.func22, Try.ntmps22
  go_wp2_with (go_at_call 27; refine HRW.out.mono ?_; rintro e w1 ⟨rfl, h1, h2⟩; have HE := hide (And.intro h1 h2); clear h1 h2)
  clear HRW
  go_loop [3, 10] (fun x i => x = .int .u32 0 ∧ i = .int .i64 0) (fun _ _ => 0)
  case atStart => exact ⟨rfl, rfl⟩
  case round =>
    obtain ⟨rfl, rfl⟩ := hrel
    go_wp2
    go_ret
    exact ⟨rfl, HE.out.1, HE.out.2⟩
theorem pword_nil (W : World) : Calls Try.prog 22 #[.pointer none] W fun e W' => e = .returned (.int .u32 0) ∧ W' = W := by
  have hz : (bs []).size = 0 := rfl
  go_enter Try.func22, Try.ntmps22
  go_wp2_with (go_at_call 27; refine (praw_nil _ _).mono ?_; rintro e w' ⟨rfl, hw⟩; replace hw := hw.symm; subst hw)
  go_loop [3, 10] (fun x i => x = .int .u32 0 ∧ i = .int .i64 0) (fun _ _ => 0)
  case atStart => exact ⟨rfl, rfl⟩
  case round =>
    obtain ⟨rfl, rfl⟩ := hrel
    go_wp2
    go_ret
    exact ⟨rfl, rfl⟩
set_option maxHeartbeats 2000000 in
theorem pword_yes {a b c d : UInt8} (r : Pb W q s p false) (h : (s.drop p).take 4 = [a, b, c, d]) :
    Calls Try.prog 22 #[.pointer (some ⟨q, 0, none⟩)] W fun e W' => e = .returned (.int .u32 (wordI a b c d)) ∧ Pb W' q s (p + 4) false ∧ W.grownBy W' (some q) := by
  have hl : p + 4 ≤ s.length := by
    have := congrArg List.length h
    simp at this
    omega
  have HRW := hide (h ▸ praw_yes r 4 hl)
  have hz := bs_size [a, b, c, d]
  simp only [List.length_cons, List.length_nil] at hz
  obtain ⟨b0, b1, b2, b3⟩ := bs_four a b c d
  obtain ⟨A, hA⟩ : ∃ A : Int, (a.toNat : Int) = A := ⟨_, rfl⟩
  obtain ⟨B, hB⟩ : ∃ B : Int, (b.toNat : Int) = B := ⟨_, rfl⟩
  obtain ⟨C, hC⟩ : ∃ C : Int, (c.toNat : Int) = C := ⟨_, rfl⟩
  obtain ⟨D, hD⟩ : ∃ D : Int, (d.toNat : Int) = D := ⟨_, rfl⟩
  have a1 : 0 ≤ A ∧ A < 256 := by have := a.toNat_lt; omega
  have a2 : 0 ≤ B ∧ B < 256 := by have := b.toNat_lt; omega
  have a3 : 0 ≤ C ∧ C < 256 := by have := c.toNat_lt; omega
  have a4 : 0 ≤ D ∧ D < 256 := by have := d.toNat_lt; omega
  have hw : wordI a b c d = A + 256 * B + 65536 * C + 16777216 * D := by unfold wordI; rw [hA, hB, hC, hD]
  rw [hw]
  have o0 : Go.bits .or .u32 0 A = A := by have := or_sum 0 A 0 (by omega) (by omega) (by omega) (by omega) (by omega); simpa using this
  have o1 : Go.bits .or .u32 A (B * 256) = A + 256 * B := by have := or_sum A B 8 (by omega) (by omega) (by omega) (by omega) (by omega); simp only [Int.reducePow] at this; omega
  have o2 : Go.bits .or .u32 (A + 256 * B) (C * 65536) = A + 256 * B + 65536 * C := by have := or_sum (A + 256 * B) C 16 (by omega) (by omega) (by omega) (by omega) (by omega); simp only [Int.reducePow] at this; omega
  have o3 : Go.bits .or .u32 (A + 256 * B + 65536 * C) (D * 16777216) = A + 256 * B + 65536 * C + 16777216 * D := by have := or_sum (A + 256 * B + 65536 * C) D 24 (by omega) (by omega) (by omega) (by omega) (by omega); simp only [Int.reducePow] at this; omega
  clear r h hl hw
  go_enter Try.func22, Try.ntmps22
  go_wp2_with (go_at_call 27; refine HRW.out.mono ?_; rintro e w1 ⟨rfl, h1, h2⟩; have HE := hide (And.intro h1 h2); clear h1 h2)
  clear HRW
  go_loop [3, 10] (fun wv iv => (wv = .int .u32 0 ∧ iv = .int .i64 0) ∨ (wv = .int .u32 A ∧ iv = .int .i64 1) ∨ (wv = .int .u32 (A + 256 * B) ∧ iv = .int .i64 2) ∨ (wv = .int .u32 (A + 256 * B + 65536 * C) ∧ iv = .int .i64 3) ∨ (wv = .int .u32 (A + 256 * B + 65536 * C + 16777216 * D) ∧ iv = .int .i64 4)) (fun _ iv => (4 - intOf iv).toNat)
  case atStart => exact .inl ⟨rfl, rfl⟩
  case round =>
    rcases hrel with ⟨rfl, rfl⟩ | ⟨rfl, rfl⟩ | ⟨rfl, rfl⟩ | ⟨rfl, rfl⟩ | ⟨rfl, rfl⟩
    · go_wp2
      exact ⟨.inr (.inl ⟨by go_num, by go_num⟩), by simp [intOf]⟩
    · go_wp2
      exact ⟨.inr (.inr (.inl ⟨by go_num, by go_num⟩)), by simp [intOf]⟩
    · go_wp2
      exact ⟨.inr (.inr (.inr (.inl ⟨by go_num, by go_num⟩))), by simp [intOf]⟩
    · go_wp2
      exact ⟨.inr (.inr (.inr (.inr ⟨by go_num, by go_num⟩))), by simp [intOf]⟩
    · go_wp2
      go_ret
      exact ⟨rfl, HE.out.1, HE.out.2⟩
end
end Go.Proofs.Ytolfhkcfepkfdaa.Ri
