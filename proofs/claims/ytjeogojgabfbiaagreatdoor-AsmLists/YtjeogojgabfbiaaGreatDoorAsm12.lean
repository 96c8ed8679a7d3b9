/-
  What the document's own parts does, as one.
-/
import Derived.Test.YtjeogojgabfbiaaGreatDoorAsm11
namespace Go.Proofs.YtjeogojgabfbiaaGreatDoor.Asm
open Go.RowKit Go.Proofs.YtjeogojgabfbiaaGreatDoor.Bits Go.Proofs.YtjeogojgabfbiaaGreatDoor.Gw Go.Proofs.YtjeogojgabfbiaaGreatDoor.Risc Go.Proofs.YtjeogojgabfbiaaGreatDoor.Tx
set_option linter.unusedVariables false
set_option linter.unusedSimpArgs false
set_option maxRecDepth 100000

def pM (s : List UInt8) : Bool := decide (0 ≤ idxI meNs s)
def pF (s : List UInt8) : Int := if pM s = true then 2 else if cutB s [46] = true then 3 else 0
def pU (s : List UInt8) : Bool := if pM s = true then decide (1 < idxI meNs s) else if cutB s [46] = true then false else endB (endL s 34) 39
def pV (s : List UInt8) : Bool := if pM s = true then idxI meNs s % 2 == 1 else if cutB s [46] = true then cut1 s [46] == [66, 76] else endB s 34
def pA (s : List UInt8) : Int := if pM s = true then 0 else if cutB s [46] = true then idxI cdNs (cut2 s [46]) else 0
def pO (s : List UInt8) : Int := if pM s = true then 0 else if cutB s [46] = true then 0 else idxI opNs (endL (endL s 34) 39)
def pK (s : List UInt8) : Bool := if pM s = true then true else if cutB s [46] = true then decide (0 ≤ idxI cdNs (cut2 s [46])) && (cut1 s [46] == [66] || cut1 s [46] == [66, 76]) else decide (0 ≤ idxI opNs (endL (endL s 34) 39))
theorem pF_is (s : List UInt8) : pF s = 0 ∨ pF s = 2 ∨ pF s = 3 := by
  unfold pF
  split
  · exact .inr (.inl rfl)
  · split
    · exact .inr (.inr rfl)
    · exact .inl rfl
theorem parts_any (s : List UInt8) (hs : s.length ≤ 1000) (w : World) :
    Calls Tryz.prog 27 #[.string (bs s)] w fun e w' => e = .returned (.tuple #[ins (pF s) (pU s) (pV s) (pA s) 0 0 (pO s) 0, .bool (pK s)]) ∧ w.grownBy w' none := by
  have hm := idx_lt meNs s
  by_cases h : pM s = true
  · simp only [pF, pU, pV, pA, pO, pK, if_pos h]
    simp only [pM, decide_eq_true_eq] at h
    obtain ⟨k, hk⟩ := Int.eq_ofNat_of_zero_le h
    rw [hk]
    exact parts_mem s hs k hk w
  · have hk : idxI meNs s = -1 := by simp only [pM, decide_eq_true_eq] at h; omega
    by_cases hc : cutB s [46] = true
    · simp only [pF, pU, pV, pA, pO, pK, if_neg h, if_pos hc]
      exact parts_jump s hs hk hc w
    · simp only [pF, pU, pV, pA, pO, pK, if_neg h, if_neg hc]
      exact parts_op s (endL s 34) (endL (endL s 34) 39) s.length (endL s 34).length (endB (endL s 34) 39) (endB s 34) hs (En.mk' s 34) (En.mk' (endL s 34) 39) hk (by simpa using hc) w
end Go.Proofs.YtjeogojgabfbiaaGreatDoor.Asm
