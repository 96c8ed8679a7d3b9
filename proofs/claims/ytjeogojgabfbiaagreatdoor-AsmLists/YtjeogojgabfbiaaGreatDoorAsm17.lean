/-
  A word's line is read as that word.
-/
import Derived.Test.YtjeogojgabfbiaaGreatDoorAsm16
namespace Go.Proofs.YtjeogojgabfbiaaGreatDoor.Asm
open Go.RowKit Go.Proofs.YtjeogojgabfbiaaGreatDoor.Bits Go.Proofs.YtjeogojgabfbiaaGreatDoor.Gw Go.Proofs.YtjeogojgabfbiaaGreatDoor.Risc Go.Proofs.YtjeogojgabfbiaaGreatDoor.Tx
set_option linter.unusedVariables false
set_option linter.unusedSimpArgs false
set_option maxRecDepth 100000

theorem c44 {n : Int} (h0 : 0 ≤ n) (h1 : n ≤ 15) : (44 : UInt8) ∉ regI n := mem_reg (by omega) (by omega) (by decide) (by decide) (by decide)
theorem rlen (n : Int) : (regI n).length ≤ 14 := by have := decI_le n; simp [regI]; omega
theorem rgK_dec {n : Int} (h0 : -1000000000 < n) (h1 : n < 1000000000) : rgK (decI n) = false ∧ rgV (decI n) = 0 := by
  have := reg_dec n h0 h1
  exact ⟨by simp [rgK, this], by simp [rgV, this]⟩
theorem line_read (f : Int) (u v : Bool) (a b c op im : Int) (hg : goodR f u v a b c op im = true) : wV (lineI f u v a b c op im) = tlV (lineI f u v a b c op im) f u v a b c op im := by
  have R := good_rng hg
  have hf := good_form hg
  simp only [goodR, Bool.and_eq_true] at hg
  have hx := hg.2
  obtain ⟨ka, rfl⟩ := Int.eq_ofNat_of_zero_le R.a.1
  obtain ⟨ko, rfl⟩ := Int.eq_ofNat_of_zero_le R.op.1
  have q1 := R.a.2
  have q4 := R.op.2
  have ra := reg_reg R.a.1 R.a.2
  have rb := reg_reg R.b.1 R.b.2
  have rc := reg_reg R.c.1 R.c.2
  have la := rlen (ka : Int)
  have lb := rlen b
  have lc := rlen c
  have li := decI_le im
  rcases hf with rfl | rfl | rfl | rfl
  · simp only [if_pos, Bool.and_eq_true, decide_eq_true_eq] at hx
    obtain ⟨_, rfl⟩ := hx
    have h := three (s := lineI 0 u v ka b c ko 0) (nm_op ko (by omega) u v) (.inl rfl) (c44 R.a.1 R.a.2) (c44 R.b.1 R.b.2) (L := regI c) (by omega) (by simp [lineI, List.append_assoc]) ra.1 rb.1 (.inl ⟨rc.1, rfl⟩)
    rw [h, rc.1, ra.2, rb.2, rc.2]
    rfl
  · obtain ⟨i0, i1⟩ := R.f1 rfl
    have hn := num_dec (n := im) (by omega) (by omega)
    have hr := rgK_dec (n := im) (by omega) (by omega)
    have hc : c = 0 := by
      simp at hx
      exact hx.1.2
    subst hc
    have h := three (s := lineI 1 u v ka b 0 ko im) (nm_op ko (by omega) u v) (.inl rfl) (c44 R.a.1 R.a.2) (c44 R.b.1 R.b.2) (L := decI im) (by omega) (by simp [lineI, List.append_assoc]) ra.1 rb.1 (.inr ⟨hr.1, hn.2.2.1⟩)
    rw [h, hr.1, ra.2, rb.2, hn.2.2.2]
    rfl
  · obtain ⟨i0, i1⟩ := R.f2 rfl
    have hn := num_dec (n := im) (by omega) (by omega)
    have hr := rgK_dec (n := im) (by omega) (by omega)
    have hc : c = 0 ∧ (ko : Int) = 0 := by
      simp at hx
      exact ⟨hx.1.1, by have := hx.1.2; omega⟩
    obtain ⟨rfl, hk⟩ := hc
    rw [hk]
    have h := three (s := lineI 2 u v ka b 0 0 im) (nm_mem u v) (.inr rfl) (c44 R.a.1 R.a.2) (c44 R.b.1 R.b.2) (L := decI im) (by omega) (by simp [lineI, List.append_assoc]) ra.1 rb.1 (.inr ⟨hr.1, hn.2.2.1⟩)
    rw [h, hr.1, ra.2, rb.2, hn.2.2.2]
    rfl
  · obtain ⟨i0, i1⟩ := R.f3 rfl
    cases u
    · have hc : b = 0 ∧ (ko : Int) = 0 ∧ im = 0 := by
        simp at hx
        omega
      obtain ⟨rfl, hk, rfl⟩ := hc
      rw [hk]
      have h := one (s := lineI 3 false v ka 0 c 0 0) (nm_jump ka (by omega) v) (R := regI c) (by omega) (by simp [lineI, List.append_assoc]) (by rw [rc.1]; rfl)
      rw [h, rc.1, rc.2]
      rfl
    · have hc : b = 0 ∧ (ko : Int) = 0 ∧ c = 0 := by
        simp at hx
        omega
      obtain ⟨rfl, hk, rfl⟩ := hc
      rw [hk]
      have hn := num_dec (n := im) (by omega) (by omega)
      have hr := rgK_dec (n := im) (by omega) (by omega)
      have h := one (s := lineI 3 true v ka 0 0 0 im) (nm_jump ka (by omega) v) (R := decI im) (by omega) (by simp [lineI, List.append_assoc]) (by rw [hn.2.2.1]; simp)
      rw [h, hr.1, hr.2, hn.2.2.2]
      rfl
theorem wV_line {x : Int} (hd : decR x = true) : wV (lineX x) = .tuple #[.int .u32 x, .int .i64 0] := by
  have h := hd
  simp only [decR, Bool.and_eq_true] at h
  have := line_read _ _ _ _ _ _ _ _ h.1
  exact this.trans (tl_yes hd rfl)
/- A line is one word's alone. -/
theorem line_inj {x y : Int} (hx : decR x = true) (hy : decR y = true) (h : lineX x = lineX y) : x = y := by
  have e1 := wV_line hx
  rw [h, wV_line hy] at e1
  simp at e1
  exact e1.symm
end Go.Proofs.YtjeogojgabfbiaaGreatDoor.Asm
