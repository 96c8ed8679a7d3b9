/-
  A run's end, purely: it ends by a word that is no instruction just where decoding refuses the word at its place.
-/
import Derived.Test.YtfdofleohichiaaDoorCdef
namespace Go.Proofs.YtfdofleohichiaaDoor.Cpu
open Go.RowKit Go.Proofs.YtfdofleohichiaaDoor.Bits Go.Proofs.YtfdofleohichiaaDoor.Gw Go.Proofs.YtfdofleohichiaaDoor.Risc Go.Proofs.YtfdofleohichiaaDoor.Alu Go.Proofs.YtfdofleohichiaaDoor.Mem
set_option linter.unusedSimpArgs false

theorem reckon_en (s : Ms) (f : Int) (u v : Bool) (ka kb kc : Nat) (op im : Int) : (s.reckon f u v ka kb kc op im).en = s.en := by
  unfold Ms.reckon
  split
  · rfl
  · split <;> rfl
theorem put_en (s : Ms) (y : Int) (h : s.en ≠ 4) : (s.put y).en ≠ 4 := by
  unfold Ms.put
  split
  · show (6 : Int) ≠ 4; decide
  · exact h
theorem store_en (s : Ms) (p y : Int) (v : Bool) (h : s.en ≠ 4) : (s.store p y v).en ≠ 4 := by
  unfold Ms.store
  split
  · exact put_en s _ h
  · split
    · show (2 : Int) ≠ 4; decide
    · split
      · show (1 : Int) ≠ 4; decide
      · split
        · split
          · exact h
          · show (5 : Int) ≠ 4; decide
        · split
          · exact h
          · show (5 : Int) ≠ 4; decide
theorem load_en (inp : ByteArray) (s : Ms) (ka : Nat) (p : Int) (v : Bool) (h : s.en ≠ 4) : (s.load inp ka p v).en ≠ 4 := by
  unfold Ms.load
  split
  · exact h
  · show (5 : Int) ≠ 4; decide
theorem exec_en (inp : ByteArray) (s : Ms) (f : Int) (u v : Bool) (ka kb kc : Nat) (op im : Int) (h : s.en ≠ 4) : (s.exec inp f u v ka kb kc op im).en ≠ 4 := by
  unfold Ms.exec
  split
  · rw [reckon_en]; exact h
  · split
    · unfold Ms.access
      split
      · exact store_en s _ _ _ h
      · exact load_en inp s _ _ _ h
    · unfold Ms.jump
      split
      · exact h
      · exact h
/- One step from a state that goes on: where it ends by 4 or 5, and where not. -/
theorem step_cases (inp : ByteArray) (s : Ms) (h : s.en = 3) :
    (¬ s.pc < s.xs.length → (s.step inp).en = 5) ∧
    (s.pc < s.xs.length → decB (at0 s.xs s.pc.toNat) = false → (s.step inp).en = 4) ∧
    (s.pc < s.xs.length → decB (at0 s.xs s.pc.toNat) = true → (s.step inp).en ≠ 4) := by
  refine ⟨fun h1 => ?_, fun h1 h2 => ?_, fun h1 h2 => ?_⟩
  · unfold Ms.step; rw [if_neg h1]
  · unfold Ms.step; rw [if_pos h1, if_neg (by rw [h2]; decide)]
  · unfold Ms.step; rw [if_pos h1, if_pos h2]
    exact exec_en inp _ _ _ _ _ _ _ _ _ (by show s.en ≠ 4; rw [h]; decide)
/- A run that ended by a word that is no instruction stands at it. -/
theorem at_op (inp : ByteArray) : ∀ (k : Nat) (s : Ms), s.en = 3 → (it inp k s).en = 4 → (it inp k s).pc < (it inp k s).xs.length ∧ decB (at0 (it inp k s).xs (it inp k s).pc.toNat) = false
  | 0, s, h, h4 => by
    have : s.en = 4 := h4
    rw [h] at this; cases this
  | k + 1, s, h, h4 => by
    rw [(it_succ inp k s h).1] at h4 ⊢
    by_cases h3 : (s.step inp).en = 3
    · exact at_op inp k _ h3 h4
    · rw [(it_end inp k _ h3).1] at h4 ⊢
      by_cases hp : s.pc < s.xs.length
      · cases hd : decB (at0 s.xs s.pc.toNat)
        · have e : s.step inp = { s with en := 4 } := by unfold Ms.step; rw [if_pos hp, if_neg (by rw [hd]; decide)]
          rw [e]; exact ⟨hp, hd⟩
        · exact absurd h4 ((step_cases inp s h).2.2 hp hd)
      · rw [(step_cases inp s h).1 hp] at h4; cases h4
theorem ct_pos (inp : ByteArray) (k : Nat) (s : Ms) (h : s.en = 3) : 1 ≤ ct inp (k + 1) s := by rw [(it_succ inp k s h).2]; omega
theorem it_one (inp : ByteArray) (s : Ms) (h : s.en = 3) : it inp 1 s = s.step inp := by rw [(it_succ inp 0 s h).1]; rfl
end Go.Proofs.YtfdofleohichiaaDoor.Cpu
