/-
  What was put out stays: a run only puts more behind it; beginnings of texts.
-/
import Derived.Test.YtjneaphlghfbhaaGreatDoorCsep
namespace Go.Proofs.YtjneaphlghfbhaaGreatDoor.Cpu
open Go.RowKit Go.Proofs.YtjneaphlghfbhaaGreatDoor.Bits Go.Proofs.YtjneaphlghfbhaaGreatDoor.Gw Go.Proofs.YtjneaphlghfbhaaGreatDoor.Risc Go.Proofs.YtjneaphlghfbhaaGreatDoor.Alu Go.Proofs.YtjneaphlghfbhaaGreatDoor.Mem
set_option linter.unusedVariables false

def Lo (s s' : Ms) : Prop := ∃ t, s'.out = s.out ++ t
theorem Lo.same {s s' : Ms} (h : s'.out = s.out) : Lo s s' := ⟨[], by rw [h]; simp⟩
theorem Lo.trans {a b c : Ms} (h : Lo a b) (k : Lo b c) : Lo a c := by
  obtain ⟨t, ht⟩ := h
  obtain ⟨u, hu⟩ := k
  exact ⟨t ++ u, by rw [hu, ht, List.append_assoc]⟩
theorem reckon_lo (s : Ms) (f : Int) (u v : Bool) (ka kb kc : Nat) (op im : Int) : Lo s (s.reckon f u v ka kb kc op im) := by
  unfold Ms.reckon
  split
  · exact Lo.same rfl
  · split <;> exact Lo.same rfl
theorem store_lo (s : Ms) (p y : Int) (v : Bool) : Lo s (s.store p y v) := by
  unfold Ms.store Ms.put
  split
  · split
    · exact Lo.same rfl
    · exact ⟨_, rfl⟩
  split
  · exact Lo.same rfl
  split
  · exact Lo.same rfl
  split
  · split <;> exact Lo.same rfl
  · split <;> exact Lo.same rfl
theorem step_lo (inp : ByteArray) (s : Ms) : Lo s (s.step inp) := by
  unfold Ms.step
  split
  · split
    · refine Lo.trans (b := { s with pc := s.pc + 1 }) (Lo.same rfl) ?_
      unfold Ms.word Ms.exec
      split
      · exact reckon_lo _ _ _ _ _ _ _ _ _
      split
      · unfold Ms.access
        split
        · exact store_lo _ _ _ _
        · unfold Ms.load
          split <;> exact Lo.same rfl
      · unfold Ms.jump
        split <;> exact Lo.same rfl
    · exact Lo.same rfl
  · exact Lo.same rfl
theorem it_lo (inp : ByteArray) (k : Nat) (s : Ms) : Lo s (it inp k s) := by
  induction k generalizing s with
  | zero => exact Lo.same rfl
  | succ k ih =>
    by_cases h : s.en = 3
    · rw [(it_succ inp k s h).1]; exact (step_lo inp s).trans (ih _)
    · rw [(it_end inp _ s h).1]; exact Lo.same rfl
theorem strO_size (l : List Int) : (strO l).size = l.length := by simp [strO, ByteArray.size]
theorem strO_pre (l t : List Int) : (strO (l ++ t)).extract 0 (strO l).size = strO l := by
  rw [strO_size]
  apply ByteArray.ext
  simp [strO]
def lgB (n : Nat) : Bool := (decide (3000 < n) && decide (n ≤ 65536)) || decide (70000 < n)
theorem large_any (ao : Option Addr) (n cp : Nat) (w : World) (hn : n ≤ 9223372036854775807) : Calls Tryz.prog 5 #[.slice ao n cp] w fun e w' => e = .returned (.bool (lgB n)) ∧ w' = w := by
  by_cases h1 : 3000 < n
  · have i1 : (3000 : Int) < (n : Int) := by omega
    by_cases h2 : n ≤ 65536
    · have i2 : (n : Int) ≤ 65536 := by omega
      have e : lgB n = true := by simp [lgB, h1, h2]
      rw [e]
      clear h1 h2 e
      go_enter Tryz.func5, Tryz.ntmps5
      go_wp2
      go_ret
      exact ⟨rfl, rfl⟩
    · have i2 : ¬ (n : Int) ≤ 65536 := by omega
      have e : lgB n = decide (70000 < (n : Int)) := by simp [lgB, h1, h2]; omega
      rw [e]
      clear h1 h2 e
      go_enter Tryz.func5, Tryz.ntmps5
      go_wp2
      all_goals go_ret
      all_goals exact ⟨rfl, rfl⟩
  · have i1 : ¬ (3000 : Int) < (n : Int) := by omega
    have e : lgB n = false := by simp [lgB]; omega
    have i3 : ¬ (70000 : Int) < (n : Int) := by omega
    rw [e]
    clear h1 e
    go_enter Tryz.func5, Tryz.ntmps5
    go_wp2
    go_ret
    exact ⟨rfl, rfl⟩
end Go.Proofs.YtjneaphlghfbhaaGreatDoor.Cpu
