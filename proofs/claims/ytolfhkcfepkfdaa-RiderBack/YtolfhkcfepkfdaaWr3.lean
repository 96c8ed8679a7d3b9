/-
  Compact numbers as bytes; the document's own writer (package spinetref08): Num, Word.
-/
import Derived.Test.YtolfhkcfepkfdaaWr2
import Derived.Test.YtolfhkcfepkfdaaRef
namespace Go.Proofs.Ytolfhkcfepkfdaa.Ri
open Go.RowKit Go.Proofs.Ytolfhkcfepkfdaa.Tx Go.Proofs.Ytolfhkcfepkfdaa.Bits
set_option linter.unusedVariables false
set_option linter.unusedSimpArgs false
set_option maxRecDepth 100000

/- A compact number, of at most k + 1 bytes. -/
def numF : Nat → Int → List UInt8
  | 0, n => [lo8 (n % 128)]
  | k + 1, n => if -64 ≤ n ∧ n ≤ 63 then [lo8 (n % 128)] else lo8 (n % 128 + 128) :: numF k (n / 128)
def numL (n : Int) : List UInt8 := numF 4 n
/- Of how many rounds a number is at most. -/
def inK (k : Nat) (n : Int) : Prop := (-64) * 128 ^ k ≤ n ∧ n < 64 * 128 ^ k
theorem inK_div {k : Nat} {n : Int} (h : inK (k + 1) n) : inK k (n / 128) := by
  unfold inK at *
  rw [Int.pow_succ] at h
  obtain ⟨h1, h2⟩ := h
  generalize (128 : Int) ^ k = m at *
  constructor <;> omega
theorem numF_last {k : Nat} {n : Int} (h : -64 ≤ n ∧ n ≤ 63) : numF k n = [lo8 (n % 128)] := by
  cases k
  · rfl
  · rw [numF, if_pos h]
theorem numF_len (k : Nat) : ∀ n, (numF k n).length ≤ k + 1 := by
  induction k with
  | zero => intro n; simp [numF]
  | succ k ih =>
    intro n
    rw [numF]
    split
    · simp
    · have := ih (n / 128)
      simp
      omega
theorem rem128 (n : Int) (h0 : -2147483648 ≤ n) (h1 : n < 2147483648) : (wrap64 (n.tmod 128 + 128)).tmod 128 = n % 128 := by
  have h : wrap64 (n.tmod 128 + 128) = n.tmod 128 + 128 := by
    unfold wrap64
    rw [tmod_is]
    split <;> omega
  rw [h, tmod_is n]
  split
  · rw [tmod_is, if_pos (by omega)]; omega
  · rw [tmod_is, if_pos (by omega)]; omega
theorem quo128 (n : Int) (h0 : -2147483648 ≤ n) (h1 : n < 2147483648) : (wrap64 (n - n % 128)).tdiv 128 = n / 128 := by
  have h : wrap64 (n - n % 128) = 128 * (n / 128) := by
    unfold wrap64
    omega
  rw [h, Int.mul_tdiv_cancel_left _ (by decide)]
set_option maxHeartbeats 4000000 in
theorem wnum_no {W : World} {B q : Nat} {v : Value} {xs : List UInt8} {sp : Bool} (r : Wb W B q v xs sp) (n : Int) (h : fitsB n 32 = false) :
    Calls Try.prog 29 #[.pointer (some ⟨q, 0, none⟩), .int .i64 n] W fun e W' => e = .returned (.tuple #[]) ∧ Wb W' B q v xs true ∧ Wst W W' q v v := by
  have HR := hide r
  have hf := fun k => free_at (k := k) r.head
  have c1 := r.c1
  have HF := hide h
  clear r h
  go_enter Try.func29, Try.ntmps29
  go_wp2_with (go_at_call 48; refine (rfits_any n 32 _).mono ?_; rw [HF.out]; rintro e w' ⟨rfl, hw⟩; replace hw := hw.symm; subst hw)
  ((try simp only [Exit.inBlock, Exit.then]); refine bodyPost_ret (results_none rfl _ _ _) rfl ?_)
  exact ⟨rfl, HR.out.spoil, Wst.grown (set_g _ _ _ _)⟩
set_option maxHeartbeats 4000000 in
theorem wnum_yes {W : World} {B q : Nat} {v : Value} {xs : List UInt8} {sp : Bool} (r : Wb W B q v xs sp) (hl : xs.length ≤ 9000000) (hB : B ≤ W.heap.size) (n : Int) (h : fitsB n 32 = true) :
    Calls Try.prog 29 #[.pointer (some ⟨q, 0, none⟩), .int .i64 n] W fun e W' => e = .returned (.tuple #[]) ∧ ∃ v', Wb W' B q v' (xs ++ numL n) sp ∧ Wst W W' q v v' := by
  have HR := hide r
  have HF := hide h
  have hn : -2147483648 ≤ n ∧ n < 2147483648 := by
    simp [fitsB] at h
    omega
  have HL := hide hl
  clear r h hl
  go_enter Try.func29, Try.ntmps29
  go_wp2_with (go_at_call 48; refine (rfits_any n 32 _).mono ?_; rw [HF.out]; rintro e w' ⟨rfl, hw⟩; replace hw := hw.symm; subst hw)
  go_loopw [1] (fun nv wr => ∃ (k : Nat) (m : Int) (v' : Value) (ys : List UInt8), k ≤ 4 ∧ nv = .int .i64 m ∧ -2147483648 ≤ m ∧ m < 2147483648 ∧ Hid (inK k m) ∧ Hid (ys.length + k ≤ 4) ∧ Hid (ys ++ numF k m = numL n) ∧ Hid (Wb wr B q v' (xs ++ ys) sp) ∧ Hid (Wst W wr q v v')) (fun nv _ => (intOf nv).natAbs)
  case atStart => exact ⟨4, n, v, [], by omega, rfl, hn.1, hn.2, hide ⟨by omega, by omega⟩, hide (by simp), hide rfl, hide (by simpa using HR.out), hide (Wst.refl _ _ _)⟩
  case round =>
    obtain ⟨k, m, v', ys, hk, rfl, m0, m1, hin, hle, hys, HW, HS⟩ := hrel
    have hBr : B ≤ wr.heap.size := Nat.le_trans hB HS.out.size
    have hr := rem128 m m0 m1
    have hq : (m - m % 128).tdiv 128 = m / 128 := by rw [show m - m % 128 = 128 * (m / 128) by omega, Int.mul_tdiv_cancel_left _ (by decide)]
    have m2 : 0 ≤ m % 128 ∧ m % 128 < 128 := by omega
    by_cases hd : -64 ≤ m ∧ m ≤ 63
    · obtain ⟨d0, d1⟩ := hd
      have d2 : ¬ m < -64 := by omega
      have d3 : ¬ 63 < m := by omega
      have hr2 : (m + 128).tmod 128 = m % 128 := by rw [tmod_is, if_pos (by omega)]; omega
      have HE := hide (numF_last (k := k) ⟨d0, d1⟩)
      go_wp2_with (go_at_call 28; refine (wbyte HW.out (by have := HL.out; have := hle.out; simp; omega) hBr (m % 128) (by omega) (by omega)).mono ?_; rintro e w1 ⟨rfl, v1, h1, h2⟩; have HW1 := hide h1; have HS1 := hide (HS.out.then h2); clear h1 h2)
      go_end0
      refine ⟨rfl, _, ?_, HS1.out⟩
      have := HW1.out
      rwa [List.append_assoc, ← HE.out, hys.out] at this
    · cases k with
      | zero =>
        have := hin.out
        unfold inK at this
        omega
      | succ k =>
        have HE := hide (show numF (k + 1) m = lo8 (m % 128 + 128) :: numF k (m / 128) by rw [numF, if_neg hd])
        have HI := hide (inK_div hin.out)
        rcases (by omega : m < -64 ∨ (¬ m < -64 ∧ 63 < m)) with d2 | ⟨d2, d3⟩
        · go_wp2_with (go_at_call 28; refine (wbyte HW.out (by have := HL.out; have := hle.out; simp; omega) hBr (m % 128 + 128) (by omega) (by omega)).mono ?_; rintro e w1 ⟨rfl, v1, h1, h2⟩; have HW1 := hide h1; have HS1 := hide (HS.out.then h2); clear h1 h2)
          go_roundw
          case rel => exact ⟨k, m / 128, v1, ys ++ [lo8 (m % 128 + 128)], by omega, by go_num, by omega, by omega, HI, hide (by have := hle.out; simp; omega), hide (by rw [List.append_assoc, ← hys.out, HE.out]; rfl), hide (by have := HW1.out; rwa [List.append_assoc] at this), HS1⟩
          case measure => simp [intOf]; omega
        · go_wp2_with (go_at_call 28; refine (wbyte HW.out (by have := HL.out; have := hle.out; simp; omega) hBr (m % 128 + 128) (by omega) (by omega)).mono ?_; rintro e w1 ⟨rfl, v1, h1, h2⟩; have HW1 := hide h1; have HS1 := hide (HS.out.then h2); clear h1 h2)
          go_roundw
          case rel => exact ⟨k, m / 128, v1, ys ++ [lo8 (m % 128 + 128)], by omega, by go_num, by omega, by omega, HI, hide (by have := hle.out; simp; omega), hide (by rw [List.append_assoc, ← hys.out, HE.out]; rfl), hide (by have := HW1.out; rwa [List.append_assoc] at this), HS1⟩
          case measure => simp [intOf]; omega
/- A word's four bytes. -/
def byI (x : Int) (i : Nat) : UInt8 := lo8 (getI x (8 * i) 8)
def wordL (x : Int) : List UInt8 := [byI x 0, byI x 1, byI x 2, byI x 3]
set_option maxHeartbeats 4000000 in
theorem wword {W : World} {B q : Nat} {v : Value} {xs : List UInt8} {sp : Bool} (r : Wb W B q v xs sp) (hl : xs.length ≤ 9000000) (hB : B ≤ W.heap.size) (x : Int) (x0 : 0 ≤ x) (x1 : x < 4294967296) :
    Calls Try.prog 30 #[.pointer (some ⟨q, 0, none⟩), .int .u32 x] W fun e W' => e = .returned (.tuple #[]) ∧ ∃ v', Wb W' B q v' (xs ++ wordL x) sp ∧ Wst W W' q v v' := by
  have HR := hide r
  have HL := hide hl
  clear r hl
  go_enter Try.func30, Try.ntmps30
  go_wp2
  go_loopw [4] (fun iv wr => ∃ (i : Nat) (v' : Value), i ≤ 4 ∧ iv = .int .i64 i ∧ Hid (Wb wr B q v' (xs ++ (wordL x).take i) sp) ∧ Hid (Wst W wr q v v')) (fun iv _ => 4 - (intOf iv).toNat)
  case atStart => exact ⟨0, v, by omega, rfl, hide (by simpa using HR.out), hide (Wst.refl _ _ _)⟩
  case round =>
    obtain ⟨i, v', hi, rfl, HW, HS⟩ := hrel
    have hBr : B ≤ wr.heap.size := Nat.le_trans hB HS.out.size
    by_cases h4 : i < 4
    · have j1 : (i : Int) < 4 := by omega
      obtain ⟨g0, g1⟩ := get_range x (8 * (i : Int)) 8
      have HT := hide (show (wordL x).take (i + 1) = (wordL x).take i ++ [lo8 (getI x (8 * (i : Int)) 8)] by
        rcases (by omega : i = 0 ∨ i = 1 ∨ i = 2 ∨ i = 3) with rfl | rfl | rfl | rfl <;> rfl)
      have HLn := hide (show (xs ++ (wordL x).take i).length ≤ 10000000 by have := HL.out; have := List.length_take_le i (wordL x); simp at this ⊢; omega)
      generalize hG : getI x (8 * (i : Int)) 8 = G at g0 g1 HT
      go_wp2_with (first | (go_at_call 49; refine (rget_any x (8 * (i : Int)) 8 _ x0 x1 (by omega)).mono ?_; rw [hG]; rintro e w1 ⟨rfl, d, rfl⟩) | (go_at_call 28; refine (wbyte (W := wr.drewN d) ⟨HW.out.head, HW.out.row⟩ HLn.out hBr G (by omega) (by omega)).mono ?_; rintro e w2 ⟨rfl, v2, h1, h2⟩; have HW1 := hide h1; have HS1 := hide (HS.out.then ⟨h2.os, h2.tape, h2.output, h2.size, h2.block, h2.new⟩); clear h1 h2))
      go_roundw
      case rel => exact ⟨i + 1, v2, by omega, by go_num, hide (by rw [HT.out, ← List.append_assoc]; exact HW1.out), HS1⟩
      case measure => simp [intOf]; omega
    · obtain rfl : i = 4 := by omega
      go_wp2
      go_end0
      exact ⟨rfl, v', HW.out, HS.out⟩
end Go.Proofs.Ytolfhkcfepkfdaa.Ri
