/-
  Package alu's Holds; flags that are alike; and what the laws of layer 3 ask of fixed words.
-/
import Derived.Test.YtfdofleohichiaaGreatDoorAlu2
import Derived.KernelRfl
namespace Go.Proofs.YtfdofleohichiaaGreatDoor.Alu
open Go.RowKit Go.Proofs.YtfdofleohichiaaGreatDoor.Bits Go.Proofs.YtfdofleohichiaaGreatDoor.Gw

def tellsB (c : Int) (N Z C V : Bool) : Bool :=
  if c = 0 then N else if c = 1 then Z else if c = 2 then C else if c = 3 then V else if c = 4 then (C || Z) else if c = 5 then (N != V) else if c = 6 then ((N != V) || Z) else (c == 7)
def holdsB (c : Int) (N Z C V : Bool) : Bool := if 8 ≤ c ∧ c < 16 then !tellsB (c - 8) N Z C V else tellsB c N Z C V

set_option maxHeartbeats 1000000 in
theorem tells_any (c : Int) (N Z C V : Bool) (w : World) :
    Calls Tryz.prog 137 #[.int .i64 c, fl N Z C V] w fun e w' => e = .returned (.bool (tellsB c N Z C V)) ∧ w' = w.alloc (.cells #[.bool N, .bool Z, .bool C, .bool V] 68) := by
  unfold fl tellsB
  by_cases h0 : c = 0
  · subst h0
    go_enter Tryz.func137, Tryz.ntmps137
    go_wp2
    go_ret
    exact ⟨rfl, rfl⟩
  rw [if_neg h0]
  by_cases h1 : c = 1
  · subst h1
    clear h0
    go_enter Tryz.func137, Tryz.ntmps137
    go_wp2
    go_ret
    exact ⟨rfl, rfl⟩
  rw [if_neg h1]
  by_cases h2 : c = 2
  · subst h2
    clear h0 h1
    go_enter Tryz.func137, Tryz.ntmps137
    go_wp2
    go_ret
    exact ⟨rfl, rfl⟩
  rw [if_neg h2]
  by_cases h3 : c = 3
  · subst h3
    clear h0 h1 h2
    go_enter Tryz.func137, Tryz.ntmps137
    go_wp2
    go_ret
    exact ⟨rfl, rfl⟩
  rw [if_neg h3]
  by_cases h4 : c = 4
  · subst h4
    clear h0 h1 h2 h3
    cases C
    · go_enter Tryz.func137, Tryz.ntmps137
      go_wp2
      go_ret
      exact ⟨rfl, rfl⟩
    · go_enter Tryz.func137, Tryz.ntmps137
      go_wp2
      go_ret
      exact ⟨rfl, rfl⟩
  rw [if_neg h4]
  by_cases h5 : c = 5
  · subst h5
    clear h0 h1 h2 h3 h4
    go_enter Tryz.func137, Tryz.ntmps137
    go_wp2
    go_ret
    exact ⟨rfl, rfl⟩
  rw [if_neg h5]
  by_cases h6 : c = 6
  · subst h6
    clear h0 h1 h2 h3 h4 h5
    cases N <;> cases V
    · go_enter Tryz.func137, Tryz.ntmps137
      go_wp2
      go_ret
      exact ⟨rfl, rfl⟩
    · go_enter Tryz.func137, Tryz.ntmps137
      go_wp2
      go_ret
      exact ⟨rfl, rfl⟩
    · go_enter Tryz.func137, Tryz.ntmps137
      go_wp2
      go_ret
      exact ⟨rfl, rfl⟩
    · go_enter Tryz.func137, Tryz.ntmps137
      go_wp2
      go_ret
      exact ⟨rfl, rfl⟩
  rw [if_neg h6]
  have f0 : (c == 0) = false := by simp [h0]
  have f1 : (c == 1) = false := by simp [h1]
  have f2 : (c == 2) = false := by simp [h2]
  have f3 : (c == 3) = false := by simp [h3]
  have f4 : (c == 4) = false := by simp [h4]
  have f5 : (c == 5) = false := by simp [h5]
  have f6 : (c == 6) = false := by simp [h6]
  clear h0 h1 h2 h3 h4 h5 h6
  go_enter Tryz.func137, Tryz.ntmps137
  go_wp2
  go_ret
  exact ⟨rfl, rfl⟩
theorem holds_any (c : Int) (N Z C V : Bool) (w : World) (c0 : -9223372036854775808 ≤ c) :
    Calls Tryz.prog 84 #[.int .i64 c, fl N Z C V] w fun e w' => e = .returned (.bool (holdsB c N Z C V)) ∧ ∃ p : By, w' = gr w p := by
  have T1 := tells_any c N Z C V
  have T2 := tells_any (c - 8) N Z C V
  unfold fl at T1 T2 ⊢
  unfold holdsB
  generalize tellsB c N Z C V = t1 at T1 ⊢
  generalize tellsB (c - 8) N Z C V = t2 at T2 ⊢
  by_cases h8 : c < 8
  · rw [if_neg (by omega)]
    clear T2
    go_enter Tryz.func84, Tryz.ntmps84
    go_wp2_with (go_at_call 137; refine (T1 _).mono ?_; rintro e w' ⟨rfl, rfl⟩)
    go_ret
    exact ⟨rfl, ((G.refl _).alloc _ _).alloc _ _⟩
  by_cases h16 : 16 ≤ c
  · rw [if_neg (by omega)]
    clear T2 h8
    go_enter Tryz.func84, Tryz.ntmps84
    go_wp2_with (go_at_call 137; refine (T1 _).mono ?_; rintro e w' ⟨rfl, rfl⟩)
    go_ret
    exact ⟨rfl, ((G.refl _).alloc _ _).alloc _ _⟩
  · rw [if_pos (by omega)]
    have g8 : 8 ≤ c := by omega
    have g16 : c < 16 := by omega
    clear T1 h8 h16
    go_enter Tryz.func84, Tryz.ntmps84
    go_wp2_with (go_at_call 137; refine (T2 _).mono ?_; rintro e w' ⟨rfl, rfl⟩)
    go_ret
    exact ⟨rfl, ((G.refl _).alloc _ _).alloc _ _⟩
end Go.Proofs.YtfdofleohichiaaGreatDoor.Alu
