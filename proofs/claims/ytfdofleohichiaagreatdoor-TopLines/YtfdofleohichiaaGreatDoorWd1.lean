/-
  How package asm reads a line: texts cut and split, numbers.
-/
import Derived.Test.YtfdofleohichiaaGreatDoorAx
import Derived.Test.YtfdofleohichiaaGreatDoorTab
import Derived.Lib.Split
import Derived.Lib.AtoiAll
import Derived.Lib.Strings
namespace Go.Proofs.YtfdofleohichiaaGreatDoor.Asm
open Go.RowKit Go.Proofs.YtfdofleohichiaaGreatDoor.Bits Go.Proofs.YtfdofleohichiaaGreatDoor.Gw Go.Proofs.YtfdofleohichiaaGreatDoor.Risc Go.Proofs.YtfdofleohichiaaGreatDoor.Tx
set_option linter.unusedVariables false
set_option linter.unusedSimpArgs false

theorem idx_at (x : UInt8) (d : List UInt8) : ∀ (p t : List UInt8), x ∉ p → Lib.index (p ++ (x :: d) ++ t) (x :: d) = (p.length : Int)
  | [], t, _ => by
    show Lib.index (x :: (d ++ t)) (x :: d) = _
    rw [Lib.index, if_pos (by simp)]
    rfl
  | c :: p, t, h => by
    simp only [List.mem_cons, not_or] at h
    show Lib.index (c :: (p ++ (x :: d) ++ t)) (x :: d) = _
    rw [Lib.index, if_neg (by simp [h.1]), idx_at x d p t h.2]
    rw [if_neg (by simp)]
    simp
theorem idx_no (x : UInt8) (d : List UInt8) : ∀ (p : List UInt8), x ∉ p → Lib.index p (x :: d) = -1
  | [], _ => rfl
  | c :: p, h => by
    simp only [List.mem_cons, not_or] at h
    rw [Lib.index, if_neg (by simp [h.1]), idx_no x d p h.2]
    rfl
theorem lcut_at (x : UInt8) (d p t : List UInt8) (h : x ∉ p) : Lib.cut (p ++ (x :: d) ++ t) (x :: d) = (p, t, true) := by
  unfold Lib.cut
  rw [idx_at x d p t h, if_pos (by omega)]
  simp
theorem splitK_no (x : UInt8) (d : List UInt8) (k : Nat) (p : List UInt8) (h : x ∉ p) : Lib.splitK (x :: d) 0 k p = [p] := by
  cases k with
  | zero => rfl
  | succ k => rw [Lib.splitK, idx_no x d p h]; rfl
theorem splitK_at (x : UInt8) (d : List UInt8) (k : Nat) (p t : List UInt8) (h : x ∉ p) : Lib.splitK (x :: d) 0 (k + 1) (p ++ (x :: d) ++ t) = p :: Lib.splitK (x :: d) 0 k t := by
  rw [Lib.splitK, idx_at x d p t h, if_neg (by simp)]
  simp
theorem splitK_pos (d : List UInt8) : ∀ (k : Nat) (s : List UInt8), 1 ≤ (Lib.splitK d 0 k s).length ∧ (Lib.splitK d 0 k s).length ≤ k + 1
  | 0, s => by simp [Lib.splitK]
  | k + 1, s => by
    rw [Lib.splitK]
    split
    · simp
    · have := splitK_pos d k (s.drop ((Lib.index s d).toNat + d.length))
      simp; omega
theorem splitK_len (d : List UInt8) : ∀ (k : Nat) (s : List UInt8), ∀ p ∈ Lib.splitK d 0 k s, p.length ≤ s.length
  | 0, s => by simp [Lib.splitK]
  | k + 1, s => by
    rw [Lib.splitK]
    split
    · simp
    · intro p hp
      rcases List.mem_cons.1 hp with rfl | hp
      · simp; omega
      · have := splitK_len d k _ p hp
        simp at this; omega
/- The two parts of a line; the parts of the second. -/
def nmT (s : List UInt8) : List UInt8 := (Lib.cut s [32]).1
def rsT (s : List UInt8) : List UInt8 := (Lib.cut s [32]).2.1
def ptT (r : List UInt8) : List (List UInt8) := Lib.splitK [44, 32] 0 (min 3 (r.length + 1) - 1) r
def laT (r : List UInt8) : List UInt8 := (ptT r).getD ((ptT r).length - 1) []
def numT (t : List UInt8) : Int := match Lib.atoiAll (Lib.trimPrefix t [82]) with | .ok v => v | _ => 0
def nT (r : List UInt8) (i : Nat) : Int := if i < (ptT r).length then numT ((ptT r).getD i []) else 0
theorem parse_val : ∀ (l : List UInt8) (acc : Nat), l.all isD = true → acc * 10 ^ l.length + 10 ^ l.length ≤ 1000000000000 → Lib.parseUint10 acc l = .ok (l.foldl (fun n c => 10 * n + (c.toNat - 48)) acc)
  | [], acc, _, _ => rfl
  | c :: r, acc, h, hb => by
    simp only [List.all_cons, Bool.and_eq_true] at h
    have hc : 48 ≤ c.toNat ∧ c.toNat ≤ 57 := by simpa [isD] using h.1
    have hp : 1 ≤ 10 ^ r.length := Nat.one_le_pow _ _ (by decide)
    obtain ⟨P, hP⟩ : ∃ P, 10 ^ r.length = P := ⟨_, rfl⟩
    rw [List.length_cons, Nat.pow_succ, hP] at hb
    rw [hP] at hp
    have h1 : acc * (P * 10) ≥ acc * 10 := Nat.mul_le_mul_left _ (by omega)
    have h2 : (acc * 10 + (c.toNat - 48)) * P + P ≤ 1000000000000 := by
      have h3 : (acc * 10 + (c.toNat - 48)) * P + P = acc * (P * 10) + (c.toNat - 48 + 1) * P := by
        rw [Nat.add_mul, Nat.add_mul, Nat.mul_assoc, Nat.mul_comm 10 P]; omega
      have h4 : (c.toNat - 48 + 1) * P ≤ 10 * P := Nat.mul_le_mul_right _ (by omega)
      omega
    rw [Lib.parseUint10, if_pos hc, if_neg (by omega), if_neg (by omega), parse_val r _ h.2 (by rw [hP]; exact h2)]
    simp [Nat.mul_comm]
theorem mag_dec {n : Nat} (h : n < 1000000000) : Lib.parseMag (decN n) = .ok n := by
  obtain ⟨a, b, c, d⟩ := decN_facts h
  unfold Lib.parseMag
  have hn : decN n ≠ [] := by intro e; rw [e] at c; simp at c
  rw [if_neg hn, parse_val (decN n) 0 b (by
    have : 10 ^ (decN n).length ≤ 10 ^ 9 := Nat.pow_le_pow_right (by decide) d
    have e : (10 : Nat) ^ 9 = 1000000000 := by decide
    omega)]
  exact congrArg Lib.NumEnd.ok a
theorem atoi_dec {n : Int} (h0 : -1000000000 < n) (h1 : n < 1000000000) : Lib.atoiAll (decI n) = .ok n := by
  by_cases h : n < 0
  · rw [decI, if_pos h]
    have hm := mag_dec (n := (-n).toNat) (by omega)
    unfold Lib.atoiAll
    simp only [show (45 : UInt8).toNat = 45 from rfl]
    simp only [or_true, if_true, hm]
    rw [if_neg (by simp), if_neg (by omega)]
    congr 1
    omega
  · rw [decI, if_neg h]
    obtain ⟨k, rfl⟩ := Int.eq_ofNat_of_zero_le (by omega : 0 ≤ n)
    obtain ⟨a, b, c, d⟩ := decN_facts (n := k) (by omega)
    have hm := mag_dec (n := k) (by omega)
    have e : (k : Int).toNat = k := by omega
    rw [e]
    cases hl : decN k with
    | nil => rw [hl] at c; simp at c
    | cons x r =>
      rw [hl] at b hm
      have hx : 48 ≤ x.toNat ∧ x.toNat ≤ 57 := by simp [isD] at b; exact b.1
      unfold Lib.atoiAll
      have n1 : ¬ (x.toNat = 43 ∨ x.toNat = 45) := by omega
      have n2 : ¬ x.toNat = 45 := by omega
      simp only [if_neg n1, hm]
      simp [n2]
      omega
theorem trim_reg (n : Int) : Lib.trimPrefix (regI n) [82] = decI n := by
  simp [Lib.trimPrefix, Lib.hasPrefix, regI]
theorem trim_dec {n : Int} (h0 : -1000000000 < n) (h1 : n < 1000000000) : Lib.hasPrefix (decI n) [82] = false ∧ Lib.trimPrefix (decI n) [82] = decI n := by
  have hm : (82 : UInt8) ∉ decI n := mem_dec h0 h1 (by decide) (by decide)
  have : Lib.hasPrefix (decI n) [82] = false := by
    unfold Lib.hasPrefix
    cases hl : decI n with
    | nil => rfl
    | cons c l =>
      rw [hl] at hm
      simp only [List.mem_cons, not_or] at hm
      have e : ((82 : UInt8) == c) = false := by simpa using hm.1
      simp [List.isPrefixOf, e]
  exact ⟨this, by rw [Lib.trimPrefix, this]; rfl⟩
theorem pre_reg (n : Int) : Lib.hasPrefix (regI n) [82] = true := by simp [Lib.hasPrefix, regI]
theorem numT_reg {n : Int} (h0 : -1000000000 < n) (h1 : n < 1000000000) : numT (regI n) = n := by rw [numT, trim_reg, atoi_dec h0 h1]
theorem numT_dec {n : Int} (h0 : -1000000000 < n) (h1 : n < 1000000000) : numT (decI n) = n := by rw [numT, (trim_dec h0 h1).2, atoi_dec h0 h1]
/- The instruction that is read with a kind. -/
def xL (k : K4) (n0 n2 : Int) : Int := if k.1 = 3 then n0 else n2
def xA (k : K4) (n0 : Int) : Int := if k.1 = 3 then k.2.1 else n0
def xB (k : K4) (n1 : Int) : Int := if k.1 = 3 then 0 else n1
def xO (k : K4) : Int := if k.1 = 3 then 0 else k.2.1
def xC (k : K4) (n0 n2 : Int) : Int := if rgT k = true then xL k n0 n2 else 0
def xI (k : K4) (n0 n2 : Int) : Int := if rgT k = true then 0 else xL k n0 n2
theorem nm_blank {k : K4} (h : k ∈ tab 4) : (32 : UInt8) ∉ nmK k := by
  have := List.all_eq_true.1 (show (tab 4).all (fun k => (nmK k).all fun c => !Nat.beq c.toNat 32) = true by kernel_rfl) k h
  intro hm
  have := List.all_eq_true.1 this 32 hm
  cases this
theorem parts1 {r : List UInt8} (h : (44 : UInt8) ∉ r) : ptT r = [r] := splitK_no 44 [32] _ r h
theorem parts3 {A B L : List UInt8} (hA : (44 : UInt8) ∉ A) (hB : (44 : UInt8) ∉ B) (hL : (44 : UInt8) ∉ L) : ptT (A ++ [44, 32] ++ (B ++ [44, 32] ++ L)) = [A, B, L] := by
  unfold ptT
  have e : min 3 ((A ++ [44, 32] ++ (B ++ [44, 32] ++ L)).length + 1) - 1 = 2 := by simp; omega
  rw [e, splitK_at 44 [32] 1 A _ hA, splitK_at 44 [32] 0 B L hB]
  rfl
theorem c44d {n : Int} (h0 : -1000000000 < n) (h1 : n < 1000000000) : (44 : UInt8) ∉ decI n := mem_dec h0 h1 (by decide) (by decide)
/- A line of an instruction is read as that instruction. -/
structure Rd (s : List UInt8) (k : K4) (a b c op im : Int) : Prop where
  nm : nmT s = nmK k
  rg : Lib.hasPrefix (laT (rsT s)) [82] = rgT k
  a : xA k (nT (rsT s) 0) = a
  b : xB k (nT (rsT s) 1) = b
  c : xC k (nT (rsT s) 0) (nT (rsT s) 2) = c
  op : xO k = op
  im : xI k (nT (rsT s) 0) (nT (rsT s) 2) = im
theorem rd_parts {s r n : List UInt8} (hs : s = n ++ [32] ++ r) (hn : (32 : UInt8) ∉ n) : nmT s = n ∧ rsT s = r := by
  subst hs
  have := lcut_at 32 [] n r hn
  unfold nmT rsT
  rw [this]
  exact ⟨rfl, rfl⟩
theorem rd_line {f : Int} {u v : Bool} {a b c op im : Int} (hg : goodR f u v a b c op im = true) : Rd (lineI f u v a b c op im) (kdI f u v a op) a b c op im ∧ kdI f u v a op ∈ tab 4 := by
  have R := good_rng hg
  have hf := good_form hg
  have q := hg
  simp only [goodR, Bool.and_eq_true] at q
  have hm : kdI f u v a op ∈ tab 4 := by
    unfold kdI
    refine tab_mem u v ?_
    have ha := R.a
    have ho := R.op
    rcases hf with rfl | rfl | rfl | rfl
    · right; left; simp; omega
    · right; left; simp; omega
    · left; simp at q; simp; omega
    · right; right; simp; omega
  refine ⟨?_, hm⟩
  obtain ⟨e1, e2⟩ := rd_parts (line_split (u := u) (v := v) (a := a) (b := b) (c := c) (op := op) (im := im) hf) (nm_blank hm)
  have ra := R.a
  have rb := R.b
  have rc := R.c
  have A := c44 ra.1 ra.2
  have B := c44 rb.1 rb.2
  have C := c44 rc.1 rc.2
  have na := numT_reg (n := a) (by omega) (by omega)
  have nb := numT_reg (n := b) (by omega) (by omega)
  have nc := numT_reg (n := c) (by omega) (by omega)
  rcases hf with rfl | rfl | rfl | rfl
  · have hp : ptT (rsT (lineI 0 u v a b c op im)) = [regI a, regI b, regI c] := by
      rw [e2]
      have := parts3 A B C
      simpa [opnI, List.append_assoc] using this
    simp at q
    refine ⟨e1, ?_, ?_, ?_, ?_, ?_, ?_⟩
    · simp [laT, hp, pre_reg, rgT, kdI]
    · simp [xA, nT, hp, na, kdI]
    · simp [xB, nT, hp, nb, kdI]
    · simp [xC, xL, rgT, nT, hp, nc, kdI]
    · simp [xO, kdI]
    · simp [xI, rgT, kdI]; omega
  · have r1 := R.f1 rfl
    have D := c44d (n := im) (by omega) (by omega)
    have nd := numT_dec (n := im) (by omega) (by omega)
    have pd := (trim_dec (n := im) (by omega) (by omega)).1
    have hp : ptT (rsT (lineI 1 u v a b c op im)) = [regI a, regI b, decI im] := by
      rw [e2]
      have := parts3 A B D
      simpa [opnI, List.append_assoc] using this
    simp at q
    refine ⟨e1, ?_, ?_, ?_, ?_, ?_, ?_⟩
    · simp [laT, hp, pd, rgT, kdI]
    · simp [xA, nT, hp, na, kdI]
    · simp [xB, nT, hp, nb, kdI]
    · simp [xC, rgT, kdI]; omega
    · simp [xO, kdI]
    · simp [xI, xL, rgT, nT, hp, nd, kdI]
  · have r1 := R.f2 rfl
    have D := c44d (n := im) (by omega) (by omega)
    have nd := numT_dec (n := im) (by omega) (by omega)
    have pd := (trim_dec (n := im) (by omega) (by omega)).1
    have hp : ptT (rsT (lineI 2 u v a b c op im)) = [regI a, regI b, decI im] := by
      rw [e2]
      have := parts3 A B D
      simpa [opnI, List.append_assoc] using this
    simp at q
    refine ⟨e1, ?_, ?_, ?_, ?_, ?_, ?_⟩
    · simp [laT, hp, pd, rgT, kdI]
    · simp [xA, nT, hp, na, kdI]
    · simp [xB, nT, hp, nb, kdI]
    · simp [xC, rgT, kdI]; omega
    · simp [xO, kdI]
    · simp [xI, xL, rgT, nT, hp, nd, kdI]
  · have r1 := R.f3 rfl
    cases u
    · have hp : ptT (rsT (lineI 3 false v a b c op im)) = [regI c] := by
        rw [e2]
        have := parts1 C
        simpa [opnI] using this
      simp at q
      refine ⟨e1, ?_, ?_, ?_, ?_, ?_, ?_⟩
      · simp [laT, hp, pre_reg, rgT, kdI]
      · simp [xA, kdI]
      · simp [xB, kdI]; omega
      · simp [xC, xL, rgT, nT, hp, nc, kdI]
      · simp [xO, kdI]; omega
      · simp [xI, rgT, kdI]; omega
    · have D := c44d (n := im) (by omega) (by omega)
      have nd := numT_dec (n := im) (by omega) (by omega)
      have pd := (trim_dec (n := im) (by omega) (by omega)).1
      have hp : ptT (rsT (lineI 3 true v a b c op im)) = [decI im] := by
        rw [e2]
        have := parts1 D
        simpa [opnI] using this
      simp at q
      refine ⟨e1, ?_, ?_, ?_, ?_, ?_, ?_⟩
      · simp [laT, hp, pd, rgT, kdI]
      · simp [xA, kdI]
      · simp [xB, kdI]; omega
      · simp [xC, rgT, kdI]; omega
      · simp [xO, kdI]; omega
      · simp [xI, xL, rgT, nT, hp, nd, kdI]
end Go.Proofs.YtfdofleohichiaaGreatDoor.Asm
