/-
  The document's own tokens (package spinetref09): hex, One.
-/
import Derived.Test.YthnkkcamfcmhmaaDoorLr11
namespace Go.Proofs.YthnkkcamfcmhmaaDoor.Lx
open Go.RowKit Go.Proofs.YthnkkcamfcmhmaaDoor.Tx
set_option linter.unusedVariables false
set_option linter.unusedSimpArgs false
set_option maxRecDepth 100000

/- A number's hexadecimal digits. -/
def hd (r : Nat) : UInt8 := UInt8.ofNat (if r < 10 then 48 + r else 55 + r)
def hxF : Nat → Nat → List UInt8
  | 0, _ => []
  | k + 1, n => if n < 16 then [hd n] else hxF k (n / 16) ++ [hd (n % 16)]
theorem hxF_le : ∀ (k m n : Nat), n < 16 ^ (k + 1) → hxF (k + 1 + m) n = hxF (k + 1) n
  | 0, m, n, h => by
    have h' : n < 16 := by simpa using h
    rw [show 0 + 1 + m = m + 1 by omega, hxF, hxF, if_pos h', if_pos h']
  | k + 1, m, n, h => by
    rw [show k + 1 + 1 + m = (k + 1 + m) + 1 by omega, hxF, hxF]
    rw [hxF_le k m (n / 16) (by rw [Nat.pow_succ] at h; omega)]
theorem hxF_len (k : Nat) : ∀ n, (hxF k n).length ≤ k := by
  induction k with
  | zero => intro n; simp [hxF]
  | succ k ih =>
    intro n
    rw [hxF]
    split
    · simp
    · have := ih (n / 16)
      simp
      omega
def hxN (n : Nat) : List UInt8 := hxF 9 n
theorem hxN_lo {n : Nat} (h : n < 16) : hxN n = [hd n] := by rw [hxN, hxF, if_pos h]
theorem hxN_hi {n : Nat} (h : ¬ n < 16) (h1 : n < 4294967296) : hxN n = hxN (n / 16) ++ [hd (n % 16)] := by
  rw [hxN, hxF, if_neg h, hxN, show (9 : Nat) = 7 + 1 + 1 from rfl, hxF_le 7 1 (n / 16) (by show n / 16 < 4294967296; omega)]
theorem hxN_len (n : Nat) : (hxN n).length ≤ 9 := hxF_len 9 n
theorem hxN_pos (n : Nat) : hxN n ≠ [] := by
  rw [hxN, hxF]
  split <;> simp
/- The loop's: n is what is left of N, s what was written. -/
def HxI (N n : Nat) (s : List UInt8) : Prop := (s = [] ∧ n = N) ∨ (s ≠ [] ∧ (n = 0 → hxN N = s) ∧ (0 < n → hxN N = hxN n ++ s))
theorem HxI.len {N n : Nat} {s : List UInt8} (h : HxI N n s) : s.length ≤ 9 := by
  have := hxN_len N
  rcases h with ⟨rfl, _⟩ | ⟨_, h0, h1⟩
  · simp
  · by_cases hn : n = 0
    · rw [← h0 hn]; exact this
    · rw [h1 (by omega)] at this
      simp at this
      omega
theorem HxI.le {N n : Nat} {s : List UInt8} (h : HxI N n s) (hs : s = []) : n = N := by
  rcases h with ⟨_, h⟩ | ⟨h, _⟩
  · exact h
  · exact absurd hs h
theorem HxI.done {N : Nat} {s : List UInt8} (h : HxI N 0 s) (hs : s ≠ []) : hxN N = s := by
  rcases h with ⟨h, _⟩ | ⟨_, h, _⟩
  · exact absurd h hs
  · exact h rfl
theorem HxI.next {N n : Nat} {s : List UInt8} (h : HxI N n s) (hN : n < 4294967296) (hx : 0 < n ∨ s = []) : HxI N (n / 16) (hd (n % 16) :: s) := by
  have key : hxN N = hxN n ++ s := by
    rcases h with ⟨rfl, rfl⟩ | ⟨hs, h0, h1⟩
    · simp
    · rcases hx with h | h
      · exact h1 h
      · exact absurd h hs
  refine Or.inr ⟨by simp, fun h0 => ?_, fun h0 => ?_⟩
  · have : n < 16 := by omega
    rw [key, hxN_lo this, show n % 16 = n by omega]; rfl
  · rw [key, hxN_hi (by omega) hN]; simp
theorem hd_ext (r : Nat) (h : r < 16) : (⟨#[48, 49, 50, 51, 52, 53, 54, 55, 56, 57, 65, 66, 67, 68, 69, 70]⟩ : ByteArray).extract r (r + 1) = bs [hd r] := by
  have : ∀ r : Fin 16, (⟨#[48, 49, 50, 51, 52, 53, 54, 55, 56, 57, 65, 66, 67, 68, 69, 70]⟩ : ByteArray).extract r.1 (r.1 + 1) = bs [hd r.1] := by
    intro r
    rw [show (⟨#[48, 49, 50, 51, 52, 53, 54, 55, 56, 57, 65, 66, 67, 68, 69, 70]⟩ : ByteArray) = bs [48, 49, 50, 51, 52, 53, 54, 55, 56, 57, 65, 66, 67, 68, 69, 70] from rfl, bs_ext]
    congr 1
    revert r
    decide
  exact this ⟨r, h⟩
def hexT (n : Nat) (al : Bool) : List UInt8 := if al = true ∨ letN ((hxN n).headD 0) = true then 48 :: hxN n else hxN n
def emp : Value → Nat
  | .string b => if b.size = 0 then 1 else 0
  | _ => 0
theorem emp_nil : emp (.string (bs [])) = 1 := rfl
theorem emp_cons (c : UInt8) (r : List UInt8) : emp (.string (bs (c :: r))) = 0 := by rw [emp, bs_size, if_neg (by simp)]
end Go.Proofs.YthnkkcamfcmhmaaDoor.Lx
