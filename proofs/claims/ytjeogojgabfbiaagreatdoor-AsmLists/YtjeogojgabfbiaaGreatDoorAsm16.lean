/-
  The document's own Word tells just the words whose lines a text is.
-/
import Derived.Test.YtjeogojgabfbiaaGreatDoorAsm15
namespace Go.Proofs.YtjeogojgabfbiaaGreatDoor.Asm
open Go.RowKit Go.Proofs.YtjeogojgabfbiaaGreatDoor.Bits Go.Proofs.YtjeogojgabfbiaaGreatDoor.Gw Go.Proofs.YtjeogojgabfbiaaGreatDoor.Risc Go.Proofs.YtjeogojgabfbiaaGreatDoor.Tx
set_option linter.unusedVariables false
set_option linter.unusedSimpArgs false
set_option maxRecDepth 100000

/- What a name is read as. -/
structure Nm (s : List UInt8) (f : Int) (u v : Bool) (a op : Int) : Prop where
  no : (32 : UInt8) ∉ s
  f : pF s = f
  u : pU s = u
  v : pV s = v
  a : pA s = a
  op : pO s = op
  k : pK s = true
  len : s.length ≤ 5
theorem nm_op (k : Nat) (h : k < 12) (u v : Bool) : Nm (nm opNs (k : Int) ++ (mkU u ++ mkV v)) 0 u v 0 k := by
  have : k = 0 ∨ k = 1 ∨ k = 2 ∨ k = 3 ∨ k = 4 ∨ k = 5 ∨ k = 6 ∨ k = 7 ∨ k = 8 ∨ k = 9 ∨ k = 10 ∨ k = 11 := by omega
  rcases this with h | h | h | h | h | h | h | h | h | h | h | h <;> subst h <;> cases u <;> cases v <;> exact ⟨by decide, by decide, by decide, by decide, by decide, by decide, by decide, by decide⟩
theorem nm_mem (u v : Bool) : Nm (memN u v) 2 u v 0 0 := by
  cases u <;> cases v <;> exact ⟨by decide, by decide, by decide, by decide, by decide, by decide, by decide, by decide⟩
theorem nm_jump (k : Nat) (h : k < 16) (v : Bool) : Nm (bN v ++ ([46] ++ nm cdNs (k : Int))) 3 false v k 0 := by
  have : k = 0 ∨ k = 1 ∨ k = 2 ∨ k = 3 ∨ k = 4 ∨ k = 5 ∨ k = 6 ∨ k = 7 ∨ k = 8 ∨ k = 9 ∨ k = 10 ∨ k = 11 ∨ k = 12 ∨ k = 13 ∨ k = 14 ∨ k = 15 := by omega
  rcases this with h | h | h | h | h | h | h | h | h | h | h | h | h | h | h | h <;> subst h <;> cases v <;> exact ⟨by decide, by decide, by decide, by decide, by decide, by decide, by decide, by decide⟩
theorem cut_eq {s d p t : List UInt8} (h : cutF d s = some (p, t)) : cut1 s d = p ∧ cut2 s d = t ∧ cutB s d = true := ⟨by rw [cut1, h], by rw [cut2, h], by rw [cutB, h]; rfl⟩
theorem tl_yes {s : List UInt8} {x : Int} (hd : decR x = true) (hs : lineX x = s) : tlV s (uF x) (uU x) (uV x) (uA x) (uB x) (uC x) (uOp x) (uIm x) = .tuple #[.int .u32 x, .int .i64 0] := by
  have h := hd
  simp only [decR, Bool.and_eq_true, decide_eq_true_eq] at h
  have e : packI (uF x) (uU x) (uV x) (uA x) (uB x) (uC x) (uOp x) (uIm x) = x := h.2
  rw [tlV, if_pos, e]
  simp [tlB, h.1, e, hd, hs]
theorem tl_no {s : List UInt8} (h : ∀ x, 0 ≤ x → x < 4294967296 → decR x = true → lineX x ≠ s) (f : Int) (u v : Bool) (a b c op im : Int) : tlV s f u v a b c op im = noV := by
  rw [tlV, if_neg]
  intro hb
  simp only [tlB, Bool.and_eq_true, beq_iff_eq] at hb
  have hr := pack_range f u v a b c op im
  exact h _ hr.1 hr.2 hb.2.1 hb.2.2
theorem wV_no {s : List UInt8} (h : ∀ x, 0 ≤ x → x < 4294967296 → decR x = true → lineX x ≠ s) : wV s = noV := by
  unfold wV
  repeat' split
  all_goals first | rfl | exact tl_no h _ _ _ _ _ _ _ _
/- Three operands. -/
theorem three {n A B L : List UInt8} {f : Int} {u v : Bool} {a op : Int} (N : Nm n f u v a op) (hf : f = 0 ∨ f = 2) (hA : (44 : UInt8) ∉ A) (hB : (44 : UInt8) ∉ B) (hl : A.length + (B.length + L.length) ≤ 50) {s : List UInt8} (hs : s = n ++ [32] ++ (A ++ [44, 32] ++ (B ++ [44, 32] ++ L))) (kA : rgK A = true) (kB : rgK B = true)
    (kL : rgK L = true ∧ f = 0 ∨ rgK L = false ∧ numB L = true) :
    wV s = tlV s (rsF f (rgK L)) u v (rgV A) (rgV B) (if rgK L = true then rgV L else 0) op (if rgK L = true then 0 else numV L) := by
  have c1 := cut_eq (s := s) (by rw [hs]; exact cutF_at 32 [] n _ N.no)
  have c2 := cut_eq (cutF_at 44 [32] A (B ++ [44, 32] ++ L) hA)
  have c3 := cut_eq (cutF_at 44 [32] B L hB)
  have e1 : wN s = n := c1.1
  have e2 : wR s = A ++ [44, 32] ++ (B ++ [44, 32] ++ L) := c1.2.1
  have e3 : wA s = A := by rw [wA, e2]; exact c2.1
  have e4 : wM s = B ++ [44, 32] ++ L := by rw [wM, e2]; exact c2.2.1
  have e5 : wB s = B := by rw [wB, e4]; exact c3.1
  have e6 : wL s = L := by rw [wL, e4]; exact c3.2.1
  have hlen : ¬ 60 < s.length := by rw [hs]; have := N.len; simp; omega
  have hn3 : ¬ f = 3 := by omega
  have hb : rsB f true true (rgK L) (numB L) = true := by
    rcases kL with ⟨h1, rfl⟩ | ⟨h1, h2⟩
    · simp [rsB, h1]
    · simp [rsB, h1, h2]
  unfold wV
  rw [if_neg hlen, e1, e2, e3, e5, e6, c1.2.2, N.k, N.f, N.u, N.v, N.op, if_neg (by decide), if_neg hn3, kA, kB, if_pos hb]
/- One operand. -/
theorem one {n R : List UInt8} {u v : Bool} {a op : Int} (N : Nm n 3 u v a op) (hl : R.length ≤ 50) {s : List UInt8} (hs : s = n ++ [32] ++ R) (k : (rgK R || numB R) = true) :
    wV s = tlV s 3 (!rgK R) v a 0 (rgV R) op (if rgK R = true then 0 else numV R) := by
  have c1 := cut_eq (s := s) (by rw [hs]; exact cutF_at 32 [] n _ N.no)
  have e1 : wN s = n := c1.1
  have e2 : wR s = R := c1.2.1
  have hlen : ¬ 60 < s.length := by rw [hs]; have := N.len; simp; omega
  unfold wV
  rw [if_neg hlen, e1, e2, c1.2.2, N.k, N.f, N.v, N.a, N.op, if_neg (by decide), if_pos rfl, if_pos k]
end Go.Proofs.YtjeogojgabfbiaaGreatDoor.Asm
