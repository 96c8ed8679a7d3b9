/-
  Compact numbers, purely: what bytes are one, and which number they are.
-/
import Derived.Test.YtolfhkcfepkfdaaWr3
namespace Go.Proofs.Ytolfhkcfepkfdaa.Ri
open Go.RowKit Go.Proofs.Ytolfhkcfepkfdaa.Tx Go.Proofs.Ytolfhkcfepkfdaa.Bits
set_option linter.unusedVariables false
set_option linter.unusedSimpArgs false

/- Each but the last has 128 more. -/
def Shp : List UInt8 → Prop
  | [] => False
  | [c] => c.toNat < 128
  | c :: d :: r => 128 ≤ c.toNat ∧ Shp (d :: r)
def valN : List UInt8 → Int
  | [] => 0
  | [c] => if c.toNat < 64 then (c.toNat : Int) else (c.toNat : Int) - 128
  | c :: d :: r => (c.toNat : Int) % 128 + 128 * valN (d :: r)
theorem lo8_of {c : UInt8} {b : Int} (h : b % 256 = c.toNat) : lo8 b = c := by
  apply UInt8.toNat_inj.1
  have := lo8_val b
  omega
theorem numF_shp (k : Nat) : ∀ n, inK k n → Shp (numF k n) ∧ valN (numF k n) = n := by
  induction k with
  | zero =>
    intro n h
    unfold inK at h
    have hv := lo8_val (n % 128)
    simp only [numF, Shp, valN]
    constructor
    · omega
    · split <;> omega
  | succ k ih =>
    intro n h
    rw [numF]
    split
    · have hv := lo8_val (n % 128)
      simp only [Shp, valN]
      constructor
      · omega
      · split <;> omega
    · obtain ⟨h1, h2⟩ := ih (n / 128) (inK_div h)
      have hv := lo8_val (n % 128 + 128)
      cases hr : numF k (n / 128) with
      | nil => rw [hr] at h1; exact h1.elim
      | cons d r =>
        rw [hr] at h1 h2
        refine ⟨⟨by omega, h1⟩, ?_⟩
        rw [valN, h2]
        omega
theorem shp_bd : ∀ l : List UInt8, Shp l → inK (l.length - 1) (valN l)
  | [], h => h.elim
  | [c], h => by
    simp only [Shp] at h
    simp only [valN, inK, List.length_cons, List.length_nil]
    split <;> omega
  | c :: d :: r, h => by
    have h2 := shp_bd (d :: r) h.2
    unfold inK at h2 ⊢
    rw [valN]
    simp only [List.length_cons, Nat.add_sub_cancel] at h2 ⊢
    rw [Int.pow_succ]
    generalize (128 : Int) ^ r.length = m at *
    generalize valN (d :: r) = x at *
    omega
/- Bytes of that shape are the number's own, if there are as many. -/
theorem numF_of : ∀ (l : List UInt8) (k : Nat), Shp l → (numF k (valN l)).length = l.length → numF k (valN l) = l
  | [], _, h, _ => h.elim
  | [c], k, h, _ => by
    simp only [Shp] at h
    have hb : -64 ≤ valN [c] ∧ valN [c] ≤ 63 := by
      simp only [valN]
      split <;> omega
    rw [numF_last hb]
    congr 1
    apply lo8_of
    simp only [valN]
    split <;> omega
  | c :: d :: r, k, h, hl => by
    cases k with
    | zero => simp [numF] at hl
    | succ k =>
      rw [numF] at hl ⊢
      by_cases hb : -64 ≤ valN (c :: d :: r) ∧ valN (c :: d :: r) ≤ 63
      · rw [if_pos hb] at hl
        simp at hl
      · rw [if_neg hb] at hl ⊢
        have hd : valN (c :: d :: r) / 128 = valN (d :: r) := by rw [valN]; omega
        have hm : valN (c :: d :: r) % 128 = (c.toNat : Int) % 128 := by rw [valN]; omega
        rw [hd] at hl ⊢
        rw [hm]
        have ih := numF_of (d :: r) k h.2 (by simpa using hl)
        rw [ih]
        congr 1
        apply lo8_of
        have := h.1
        have := c.toNat_lt
        omega
/- What begins with bytes of that shape begins with no others. -/
theorem shp_one : ∀ (a b x y : List UInt8), Shp a → Shp b → a ++ x = b ++ y → a = b
  | [], _, _, _, h, _, _ => h.elim
  | _, [], _, _, _, h, _ => h.elim
  | [c], [d], x, y, _, _, e => by
    simp at e
    rw [e.1]
  | [c], d :: e :: r, x, y, h, h2, e' => by
    simp at e'
    have := h2.1
    simp only [Shp] at h
    rw [e'.1] at h
    omega
  | c :: d :: r, [e], x, y, h, h2, e' => by
    simp at e'
    have := h.1
    simp only [Shp] at h2
    rw [e'.1] at this
    omega
  | c :: d :: r, e :: f :: t, x, y, h, h2, e' => by
    simp only [List.cons_append] at e'
    injection e' with e1 e2
    have := shp_one (d :: r) (f :: t) x y h.2 h2.2 (by simpa using e2)
    rw [e1, this]
theorem fits_in {n : Int} : fitsB n 32 = true ↔ -2147483648 ≤ n ∧ n < 2147483648 := by
  simp [fitsB]
  omega
theorem in4 {n : Int} (h : fitsB n 32 = true) : inK 4 n := by
  have := fits_in.1 h
  unfold inK
  omega
end Go.Proofs.Ytolfhkcfepkfdaa.Ri
