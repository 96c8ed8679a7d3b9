/-
  Another register in one of an instruction's fields turns just that field's bits of its word.
-/
import Derived.Test.YtnogmacfnlhnlaaDoorRmath2
namespace Go.Proofs.YtnogmacfnlhnlaaDoor.Risc
open Go.RowKit Go.Proofs.YtnogmacfnlhnlaaDoor.Bits Go.Proofs.YtnogmacfnlhnlaaDoor.Gw Go.Proofs.YtnogmacfnlhnlaaDoor.Bm

theorem xor_off (X Y l m : Nat) (h : l + m ≤ 32) (hX : X < 4294967296) (hY : Y < 4294967296) (e : putN X l m 0 = putN Y l m 0) :
    Go.bits .andNot .u32 (Go.bits .xor .u32 (X : Int) (Y : Int)) (((2 ^ m - 1) * 2 ^ l : Nat) : Int) = 0 := by
  have hx : X ^^^ Y < 4294967296 := Nat.xor_lt_two_pow (n := 32) hX hY
  rw [u32_xor_nat _ _ hX hY, u32_andNot_nat _ _ hx (hole_lt l m h)]
  have d : ∀ M : Nat, (X ^^^ Y) &&& M = (X &&& M) ^^^ (Y &&& M) := fun M => by
    apply Nat.eq_of_testBit_eq
    intro i
    simp only [Nat.testBit_and, Nat.testBit_xor]
    cases X.testBit i <;> cases Y.testBit i <;> cases M.testBit i <;> rfl
  rw [d, andNot_hole X l m h hX, andNot_hole Y l m h hY, e, Nat.xor_self]
  rfl
theorem off24 {X Y : Int} (hX : U32 X) (hY : U32 Y) (h1 : X / 268435456 = Y / 268435456) (h2 : X % 16777216 = Y % 16777216) : Go.bits .andNot .u32 (Go.bits .xor .u32 X Y) 251658240 = 0 := by
  obtain ⟨x, rfl⟩ := Int.eq_ofNat_of_zero_le hX.1
  obtain ⟨y, rfl⟩ := Int.eq_ofNat_of_zero_le hY.1
  have a := hX.2
  have b := hY.2
  refine xor_off x y 24 4 (by decide) (by omega) (by omega) ?_
  show x / 268435456 * 268435456 + 0 % 16 * 16777216 + x % 16777216 = y / 268435456 * 268435456 + 0 % 16 * 16777216 + y % 16777216
  omega
theorem off20 {X Y : Int} (hX : U32 X) (hY : U32 Y) (h1 : X / 16777216 = Y / 16777216) (h2 : X % 1048576 = Y % 1048576) : Go.bits .andNot .u32 (Go.bits .xor .u32 X Y) 15728640 = 0 := by
  obtain ⟨x, rfl⟩ := Int.eq_ofNat_of_zero_le hX.1
  obtain ⟨y, rfl⟩ := Int.eq_ofNat_of_zero_le hY.1
  have a := hX.2
  have b := hY.2
  refine xor_off x y 20 4 (by decide) (by omega) (by omega) ?_
  show x / 16777216 * 16777216 + 0 % 16 * 1048576 + x % 1048576 = y / 16777216 * 16777216 + 0 % 16 * 1048576 + y % 1048576
  omega
theorem and15 (x : Int) (x0 : 0 ≤ x) (x1 : x < 4294967296) : Go.bits .and .u32 x 15 = x % 16 := by
  have := lower_eq x 4 (by decide) (by decide) x0 x1
  simpa using this
theorem pack_low (f : Int) (u v : Bool) (b c op im : Int) : ∃ r, 0 ≤ r ∧ r < 16777216 ∧ ∀ a, packI f u v a b c op im = hd f u v a + r := by
  refine ⟨_, ?_, ?_, fun a => pack_eq f u v a b c op im⟩
  · split
    · omega
    split
    · omega
    split
    · omega
    split <;> omega
  · split
    · omega
    split
    · omega
    split
    · omega
    split <;> omega
theorem pack_lower (f : Int) (u v : Bool) (c op im : Int) (h : f = 0 ∨ f = 1 ∨ f = 2) : ∃ r, 0 ≤ r ∧ r < 1048576 ∧ ∀ a b, packI f u v a b c op im = hd f u v a + (b % 16 * 1048576 + r) := by
  rcases h with rfl | rfl | rfl
  · exact ⟨op % 16 * 65536 + c % 16, by omega, by omega, fun a b => by rw [pack_eq, if_pos rfl]; omega⟩
  · exact ⟨op % 16 * 65536 + im % 65536, by omega, by omega, fun a b => by rw [pack_eq, if_neg (by decide), if_pos rfl]; omega⟩
  · exact ⟨im % 1048576, by omega, by omega, fun a b => by rw [pack_eq, if_neg (by decide), if_neg (by decide), if_pos rfl]⟩
theorem field_a (f : Int) (u v : Bool) (a A b c op im : Int) (hA : 0 ≤ A ∧ A < 16) :
    Go.bits .andNot .u32 (Go.bits .xor .u32 (packI f u v a b c op im) (packI f u v A b c op im)) 251658240 = 0 ∧ Go.bits .and .u32 (packI f u v A b c op im / 16777216) 15 = A := by
  have hX := pack_range f u v a b c op im
  have hY := pack_range f u v A b c op im
  obtain ⟨r, r0, r1, hr⟩ := pack_low f u v b c op im
  have e1 := hr a
  have e2 := hr A
  have hu := bI_range u
  have hv := bI_range v
  unfold hd at e1 e2
  have q := hY.1
  have q' := hY.2
  refine ⟨off24 hX hY ?_ ?_, ?_⟩
  · rw [e1, e2]; omega
  · rw [e1, e2]; omega
  · rw [and15 _ (by omega) (by omega)]; omega
theorem field_b (f : Int) (u v : Bool) (a A b c op im : Int) (hA : 0 ≤ A ∧ A < 16) (h : f = 0 ∨ f = 1 ∨ f = 2) :
    Go.bits .andNot .u32 (Go.bits .xor .u32 (packI f u v a b c op im) (packI f u v a A c op im)) 15728640 = 0 ∧ Go.bits .and .u32 (packI f u v a A c op im / 1048576) 15 = A := by
  have hX := pack_range f u v a b c op im
  have hY := pack_range f u v a A c op im
  obtain ⟨r, r0, r1, hr⟩ := pack_lower f u v c op im h
  have e1 := hr a b
  have e2 := hr a A
  obtain ⟨g0, g1, g2⟩ := hd_bd f u v a
  generalize hd f u v a = H at *
  have q := hY.1
  have q' := hY.2
  refine ⟨off20 hX hY ?_ ?_, ?_⟩
  · rw [e1, e2]; omega
  · rw [e1, e2]; omega
  · rw [and15 _ (by omega) (by omega)]; omega
theorem good_a {f : Int} {u v : Bool} {a A b c op im : Int} (hA : 0 ≤ A ∧ A < 16) (h : goodB f u v a b c op im = true) : goodB f u v A b c op im = true := by
  rw [good_eq, good_iff, back_iff] at h ⊢
  exact ⟨⟨⟨hA.1, by omega⟩, h.1.2⟩, h.2⟩
theorem good_b {f : Int} {u v : Bool} {a A b c op im : Int} (hA : 0 ≤ A ∧ A < 16) (hf : ¬ f = 3) (h : goodB f u v a b c op im = true) : goodB f u v a A c op im = true ∧ (f = 0 ∨ f = 1 ∨ f = 2) := by
  rw [good_eq, good_iff, back_iff] at h ⊢
  obtain ⟨⟨h1, h2⟩, h3⟩ := h
  have hA' : 0 ≤ A ∧ A ≤ 15 := ⟨hA.1, by omega⟩
  rcases h2 with ⟨e, _, g⟩ | ⟨e, _, g⟩ | ⟨e, _, g⟩ | ⟨e, _⟩
  · exact ⟨⟨⟨h1, Or.inl ⟨e, hA', g⟩⟩, h3⟩, Or.inl e⟩
  · exact ⟨⟨⟨h1, Or.inr (Or.inl ⟨e, hA', g⟩)⟩, h3⟩, Or.inr (Or.inl e)⟩
  · exact ⟨⟨⟨h1, Or.inr (Or.inr (Or.inl ⟨e, hA', g⟩))⟩, h3⟩, Or.inr (Or.inr e)⟩
  · exact absurd e hf
end Go.Proofs.YtnogmacfnlhnlaaDoor.Risc
