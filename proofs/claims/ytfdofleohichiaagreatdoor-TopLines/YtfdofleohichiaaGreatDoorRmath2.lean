/-
  The program's notion of an instruction is the document's; what was written is read as it was, and the other way round.
-/
import Derived.Test.YtfdofleohichiaaGreatDoorRmath
namespace Go.Proofs.YtfdofleohichiaaGreatDoor.Risc
open Go.RowKit Go.Proofs.YtfdofleohichiaaGreatDoor.Bits Go.Proofs.YtfdofleohichiaaGreatDoor.Gw Go.Proofs.YtfdofleohichiaaGreatDoor.Bm

theorem bI_beq (u : Bool) : (bI u == 1) = u := by cases u <;> rfl
theorem top_nat (g p q t r : Int) (hg : 0 ≤ g ∧ g < 4) (hp : 0 ≤ p ∧ p ≤ 1) (hq : 0 ≤ q ∧ q ≤ 1) (ht : 0 ≤ t ∧ t < 16) (r0 : 0 ≤ r) (r1 : r < 16777216) :
    0 ≤ g * 1073741824 + p * 536870912 + q * 268435456 + t * 16777216 + r ∧
    (g * 1073741824 + p * 536870912 + q * 268435456 + t * 16777216 + r) / 1073741824 % 4 = g ∧
    (g * 1073741824 + p * 536870912 + q * 268435456 + t * 16777216 + r) / 536870912 % 2 = p ∧
    (g * 1073741824 + p * 536870912 + q * 268435456 + t * 16777216 + r) / 268435456 % 2 = q ∧
    (g * 1073741824 + p * 536870912 + q * 268435456 + t * 16777216 + r) / 16777216 % 16 = t := by
  refine ⟨?_, ?_, ?_, ?_, ?_⟩ <;> omega
/- The upper bits of an instruction's word. -/
theorem top_eq (f : Int) (u v : Bool) (a : Int) (r : Int) (r0 : 0 ≤ r) (r1 : r < 16777216) :
    uF (hd f u v a + r) = f % 4 ∧ uU (hd f u v a + r) = u ∧ uV (hd f u v a + r) = v ∧ uA (hd f u v a + r) = a % 16 := by
  have hu := bI_range u
  have hv := bI_range v
  obtain ⟨x0, e1, e2, e3, e4⟩ := top_nat (f % 4) (bI u) (bI v) (a % 16) r (by omega) hu hv (by omega) r0 r1
  refine ⟨?_, ?_, ?_, ?_⟩
  · unfold uF hd; rw [g30 _ x0, e1]
  · unfold uU hd; rw [g29 _ x0, e2, bI_beq]
  · unfold uV hd; rw [g28 _ x0, e3, bI_beq]
  · unfold uA hd; rw [g24 _ x0, e4]

theorem in_iff (n a b : Int) : inB n a b = true ↔ a ≤ n ∧ n ≤ b := by simp [inB]
theorem fits20 (im : Int) : fitsB im 20 = true ↔ -524288 ≤ im ∧ im < 524288 := by
  unfold fitsB
  rw [decide_eq_true_iff, show ((2 : Int) ^ (20 : Int).toNat) = 1048576 from rfl]
  omega
theorem fits24 (im : Int) : fitsB im 24 = true ↔ -8388608 ≤ im ∧ im < 8388608 := by
  unfold fitsB
  rw [decide_eq_true_iff, show ((2 : Int) ^ (24 : Int).toNat) = 16777216 from rfl]
  omega
theorem mark_iff (op : Int) (u v : Bool) : markB op u v = true ↔ op ≤ 11 ∧ ((u = false ∧ v = false) ∨ (u = true ∧ v = true ∧ op = 0) ∨ (u = true ∧ v = false ∧ (op = 0 ∨ op = 8 ∨ op = 9 ∨ op = 10))) := by
  unfold markB idxI
  cases u
  · cases v <;> simp
  · cases v
    · by_cases h0 : op = 0
      · simp [h0]
      by_cases h8 : op = 8
      · simp [h8]
      by_cases h9 : op = 9
      · simp [h9]
      by_cases h10 : op = 10
      · simp [h10]
      simp [h0, h8, h9, h10]
    · by_cases h0 : op = 0
      · simp [h0]
      simp [h0]
theorem uok_iff (u : Bool) (op : Int) : uokB u op = true ↔ u = false ∨ op = 0 ∨ op = 8 ∨ op = 9 ∨ op = 10 := by
  unfold uokB; cases u <;> simp

theorem back_iff (f : Int) (u v : Bool) (a b c op im : Int) : backB f u v a b c op im = true ↔
    (0 ≤ a ∧ a ≤ 15) ∧ ((f = 0 ∧ (0 ≤ b ∧ b ≤ 15) ∧ (0 ≤ c ∧ c ≤ 15) ∧ (0 ≤ op ∧ op ≤ 15) ∧ im = 0) ∨ (f = 1 ∧ (0 ≤ b ∧ b ≤ 15) ∧ c = 0 ∧ (0 ≤ op ∧ op ≤ 15) ∧ (0 ≤ im ∧ im ≤ 65535)) ∨
      (f = 2 ∧ (0 ≤ b ∧ b ≤ 15) ∧ c = 0 ∧ op = 0 ∧ (-524288 ≤ im ∧ im < 524288)) ∨ (f = 3 ∧ b = 0 ∧ op = 0 ∧ ((u = true ∧ c = 0 ∧ -8388608 ≤ im ∧ im < 8388608) ∨ (u = false ∧ (0 ≤ c ∧ c ≤ 15) ∧ im = 0)))) := by
  unfold backB
  rw [decide_eq_true_iff, pack_eq]
  have hb := hd_bd f u v a
  by_cases h0 : f = 0
  · subst h0
    rw [if_pos rfl]
    obtain ⟨e1, e2, e3, e4⟩ := top_eq 0 u v a (b % 16 * 1048576 + op % 16 * 65536 + c % 16) (by omega) (by omega)
    have x0 : 0 ≤ hd 0 u v a + (b % 16 * 1048576 + op % 16 * 65536 + c % 16) := by omega
    unfold uB uC uOp uIm
    rw [e1, e2, e3, e4, g20 _ x0, g16 _ x0, g0_4 _ x0]
    simp
    omega
  by_cases h1 : f = 1
  · subst h1
    rw [if_neg (by decide), if_pos rfl]
    obtain ⟨e1, e2, e3, e4⟩ := top_eq 1 u v a (b % 16 * 1048576 + op % 16 * 65536 + im % 65536) (by omega) (by omega)
    have x0 : 0 ≤ hd 1 u v a + (b % 16 * 1048576 + op % 16 * 65536 + im % 65536) := by omega
    unfold uB uC uOp uIm
    rw [e1, e2, e3, e4, g20 _ x0, g16 _ x0, g0_16 _ x0]
    simp
    omega
  by_cases h2 : f = 2
  · subst h2
    rw [if_neg (by decide), if_neg (by decide), if_pos rfl]
    obtain ⟨e1, e2, e3, e4⟩ := top_eq 2 u v a (b % 16 * 1048576 + im % 1048576) (by omega) (by omega)
    have x0 : 0 ≤ hd 2 u v a + (b % 16 * 1048576 + im % 1048576) := by omega
    unfold uB uC uOp uIm
    rw [e1, e2, e3, e4, g20 _ x0, g0_20 _ x0]
    simp
    split <;> omega
  rw [if_neg h0, if_neg h1, if_neg h2]
  by_cases h3 : f = 3
  · subst h3
    cases u
    · rw [if_neg (by decide)]
      obtain ⟨e1, e2, e3, e4⟩ := top_eq 3 false v a (c % 16) (by omega) (by omega)
      have x0 : 0 ≤ hd 3 false v a + c % 16 := by omega
      unfold uB uC uOp uIm
      rw [e1, e2, e3, e4, g0_4 _ x0]
      simp
      omega
    · rw [if_pos rfl]
      obtain ⟨e1, e2, e3, e4⟩ := top_eq 3 true v a (im % 16777216) (by omega) (by omega)
      have x0 : 0 ≤ hd 3 true v a + im % 16777216 := by omega
      unfold uB uC uOp uIm
      rw [e1, e2, e3, e4, g0_24 _ x0]
      simp
      split <;> omega
  · obtain ⟨e1, _, _, _⟩ := top_eq f u v a (if u = true then im % 16777216 else c % 16) (by split <;> omega) (by split <;> omega)
    rw [e1]
    have hne : ¬ f % 4 = f := by omega
    constructor
    · rintro ⟨h, _⟩
      exact absurd h hne
    · rintro ⟨_, h⟩
      rcases h with ⟨h, _⟩ | ⟨h, _⟩ | ⟨h, _⟩ | ⟨h, _⟩
      · exact absurd h h0
      · exact absurd h h1
      · exact absurd h h2
      · exact absurd h h3

theorem good_iff (f : Int) (u v : Bool) (a b c op im : Int) : goodR f u v a b c op im = true ↔ backB f u v a b c op im = true ∧ operB f u v op = true := by
  rw [back_iff]
  unfold goodR operB
  by_cases h0 : f = 0
  · subst h0
    simp only [if_true, Bool.and_eq_true, Bool.or_eq_true, Bool.not_eq_true', decide_eq_true_iff, in_iff, uok_iff, mark_iff]
    cases u <;> cases v <;> simp <;> omega
  by_cases h1 : f = 1
  · subst h1
    simp only [if_neg (show ¬ (1 : Int) = 0 by decide), if_true, Bool.and_eq_true, decide_eq_true_iff, in_iff, uok_iff, mark_iff]
    cases u <;> simp <;> omega
  by_cases h2 : f = 2
  · subst h2
    simp [in_iff, fits20]
    omega
  by_cases h3 : f = 3
  · subst h3
    cases u <;> simp [in_iff, fits24] <;> omega
  simp [h0, h1, h2, h3]
theorem good_eq (f : Int) (u v : Bool) (a b c op im : Int) : goodB f u v a b c op im = goodR f u v a b c op im := by
  rw [Bool.eq_iff_iff, good_iff, goodB, Bool.and_eq_true]
/- What was written is read as it was. -/
theorem read_written {f : Int} {u v : Bool} {a b c op im : Int} (h : goodB f u v a b c op im = true) :
    decB (packI f u v a b c op im) = true ∧ uIns (packI f u v a b c op im) = ins f u v a b c op im := by
  rw [goodB, Bool.and_eq_true] at h
  obtain ⟨h1, h2⟩ := h
  unfold backB at h1
  obtain ⟨e1, e2, e3, e4, e5, e6, e7, e8⟩ := of_decide_eq_true h1
  refine ⟨?_, ins_eq e1 e2 e3 e4 e5 e6 e7 e8⟩
  unfold decB againI
  rw [e1, e2, e3, e4, e5, e6, e7, e8, h2]
  simp
/- What was read is written as it was. -/
theorem back_read {x : Int} (h : againI x = x) : backB (uF x) (uU x) (uV x) (uA x) (uB x) (uC x) (uOp x) (uIm x) = true := by
  unfold backB
  have e : packI (uF x) (uU x) (uV x) (uA x) (uB x) (uC x) (uOp x) (uIm x) = x := h
  rw [e, decide_eq_true_iff]
  simp
theorem dec_again {x : Int} (h : decB x = true) : againI x = x ∧ goodB (uF x) (uU x) (uV x) (uA x) (uB x) (uC x) (uOp x) (uIm x) = true := by
  rw [decB, Bool.and_eq_true] at h
  obtain ⟨h1, h2⟩ := h
  have h1 := of_decide_eq_true h1
  exact ⟨h1, by rw [goodB, back_read h1, h2]; rfl⟩
theorem dec_eq (x : Int) : decB x = decR x := by
  unfold decR
  rw [← good_eq]
  unfold decB goodB
  by_cases h : againI x = x
  · rw [back_read h]; simp [h]
  · simp [h]
end Go.Proofs.YtfdofleohichiaaGreatDoor.Risc
