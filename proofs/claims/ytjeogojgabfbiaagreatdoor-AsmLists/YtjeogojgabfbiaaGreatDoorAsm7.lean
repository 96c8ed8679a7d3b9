/-
  What the document's own Line does, as one.
-/
import Derived.Test.YtjeogojgabfbiaaGreatDoorAsm6
namespace Go.Proofs.YtjeogojgabfbiaaGreatDoor.Asm
open Go.RowKit Go.Proofs.YtjeogojgabfbiaaGreatDoor.Bits Go.Proofs.YtjeogojgabfbiaaGreatDoor.Gw Go.Proofs.YtjeogojgabfbiaaGreatDoor.Risc Go.Proofs.YtjeogojgabfbiaaGreatDoor.Tx
set_option linter.unusedVariables false
set_option linter.unusedSimpArgs false
set_option maxRecDepth 100000

structure Rng (f : Int) (u : Bool) (a b c op im : Int) : Prop where
  a : 0 ≤ a ∧ a ≤ 15
  b : 0 ≤ b ∧ b ≤ 15
  c : 0 ≤ c ∧ c ≤ 15
  op : 0 ≤ op ∧ op ≤ 11
  f1 : f = 1 → 0 ≤ im ∧ im ≤ 65535
  f2 : f = 2 → -1000000 ≤ im ∧ im ≤ 1000000
  f3 : f = 3 → -100000000 ≤ im ∧ im ≤ 100000000
theorem fits20 {x : Int} (h : fitsB x 20 = true) : -1000000 ≤ x ∧ x ≤ 1000000 := by
  simp only [fitsB, decide_eq_true_eq] at h
  have e : (2 : Int) ^ (20 : Int).toNat = 1048576 := by decide
  rw [e] at h
  omega
theorem fits24 {x : Int} (h : fitsB x 24 = true) : -100000000 ≤ x ∧ x ≤ 100000000 := by
  simp only [fitsB, decide_eq_true_eq] at h
  have e : (2 : Int) ^ (24 : Int).toNat = 16777216 := by decide
  rw [e] at h
  omega
theorem good_rng {f : Int} {u v : Bool} {a b c op im : Int} (h : goodR f u v a b c op im = true) : Rng f u a b c op im := by
  simp only [goodR, Bool.and_eq_true, inB, decide_eq_true_eq] at h
  obtain ⟨⟨⟨⟨ha, hb⟩, hc⟩, ho⟩, hx⟩ := h
  refine ⟨ha, hb, hc, ho, fun e => ?_, fun e => ?_, fun e => ?_⟩
  · subst e
    simp at hx
    exact hx.2
  · subst e
    simp at hx
    exact fits20 hx.2
  · subst e
    cases u
    · simp at hx; omega
    · simp at hx; exact fits24 hx.2.2
theorem line_any (x : Int) (x0 : 0 ≤ x) (x1 : x < 4294967296) (w : World) :
    Calls Tryz.prog 8 #[.int .u32 x] w fun e w' => e = .returned (if decR x = true then .tuple #[.string (bs (lineX x)), .int .i64 0] else .tuple #[.string (bs []), .int .i64 20]) ∧ w.grownBy w' none := by
  have hd := fun w => rdecode_any x w x0 x1
  by_cases h : decR x = true
  · simp only [if_pos h] at hd ⊢
    have hg : goodR (uF x) (uU x) (uV x) (uA x) (uB x) (uC x) (uOp x) (uIm x) = true := by
      simp only [decR, Bool.and_eq_true] at h; exact h.1
    have R := good_rng hg
    have hf := good_form hg
    have hi : uIns x = ins (uF x) (uU x) (uV x) (uA x) (uB x) (uC x) (uOp x) (uIm x) := rfl
    have hl : lineX x = lineI (uF x) (uU x) (uV x) (uA x) (uB x) (uC x) (uOp x) (uIm x) := rfl
    rw [hl]
    rw [hi] at hd
    clear hi hl hg h
    generalize uF x = f at hd hf R ⊢
    generalize uU x = u at hd R ⊢
    generalize uV x = v at hd ⊢
    generalize uA x = a at hd R ⊢
    generalize uB x = b at hd R ⊢
    generalize uC x = c at hd R ⊢
    generalize uOp x = op at hd R ⊢
    generalize uIm x = im at hd R ⊢
    obtain ⟨ka, rfl⟩ := Int.eq_ofNat_of_zero_le R.a.1
    obtain ⟨kb, rfl⟩ := Int.eq_ofNat_of_zero_le R.b.1
    obtain ⟨kc, rfl⟩ := Int.eq_ofNat_of_zero_le R.c.1
    obtain ⟨ko, rfl⟩ := Int.eq_ofNat_of_zero_le R.op.1
    have q1 := R.a.2
    have q2 := R.b.2
    have q3 := R.c.2
    have q4 := R.op.2
    rcases hf with rfl | rfl | rfl | rfl
    · exact line_0 x x0 x1 u v ka kb kc ko im (by omega) (by omega) (by omega) (by omega) hd w
    · exact line_1 x x0 x1 u v ka kb kc ko im (by omega) (by omega) (by omega) (R.f1 rfl).1 (R.f1 rfl).2 hd w
    · exact line_2 x u v ka kb kc ko im (by omega) q1 (by omega) q2 (R.f2 rfl).1 (R.f2 rfl).2 hd w
    · exact line_3 x u v ka kb kc ko im (by omega) (by omega) q3 (R.f3 rfl).1 (R.f3 rfl).2 hd w
  · simp only [if_neg h] at hd ⊢
    exact line_no x hd w
end Go.Proofs.YtjeogojgabfbiaaGreatDoor.Asm
