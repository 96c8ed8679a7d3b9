/-
  The document's own layer 3 (package spinetref03): what its functions answer.
-/
import Derived.Test.YtjneaphlghfbhaaGreatDoorAlu3
import Derived.Test.YtjneaphlghfbhaaGreatDoorRef
namespace Go.Proofs.YtjneaphlghfbhaaGreatDoor.Alu
open Go.RowKit Go.Proofs.YtjneaphlghfbhaaGreatDoor.Bits Go.Proofs.YtjneaphlghfbhaaGreatDoor.Gw

theorem rcarry_any (u N Z C V : Bool) (w : World) :
    Calls Tryz.prog 97 #[.bool u, fl N Z C V] w fun e w' => e = .returned (.int .i64 (cI u C)) ∧ w' = w.alloc (.cells #[.bool N, .bool Z, .bool C, .bool V] 59) := by
  unfold fl
  cases u
  · go_enter Tryz.func97, Tryz.ntmps97
    go_wp2
    go_ret
    exact ⟨rfl, rfl⟩
  · cases C
    · go_enter Tryz.func97, Tryz.ntmps97
      go_wp2
      go_ret
      exact ⟨rfl, rfl⟩
    · go_enter Tryz.func97, Tryz.ntmps97
      go_wp2
      go_ret
      exact ⟨rfl, rfl⟩
theorem floor_facts (a m : Int) (a0 : -4611686018427387904 ≤ a) (a1 : a ≤ 4611686018427387904) (m0 : 0 < m) (m1 : m ≤ 4294967296) :
    -4611686018427387904 ≤ a.tdiv m ∧ a.tdiv m ≤ 4611686018427387904 ∧ -9000000000000000000 ≤ a.tdiv m * m ∧ a.tdiv m * m ≤ 9000000000000000000 ∧ ((a.tdiv m * m ≤ a → a.tdiv m = a / m) ∧ (a < a.tdiv m * m → a.tdiv m - 1 = a / m)) := by
  have hm : m * (a.tdiv m) = a.tdiv m * m := Int.mul_comm _ _
  by_cases h : 0 ≤ a
  · rw [Int.tdiv_eq_ediv_of_nonneg h] at hm ⊢
    have r0 := Int.emod_nonneg a (show m ≠ 0 by omega)
    have r1 := Int.emod_lt_of_pos a m0
    have q0 := Int.ediv_nonneg h (Int.le_of_lt m0)
    have q1 := Int.ediv_le_self m h
    have e3 := Int.mul_ediv_add_emod a m
    exact ⟨by omega, by omega, by omega, by omega, fun _ => rfl, fun hh => by omega⟩
  · have h' : 0 ≤ -a := by omega
    have e1 : a.tdiv m = -(-a / m) := by rw [← Int.tdiv_eq_ediv_of_nonneg h', Int.neg_tdiv, Int.neg_neg]
    rw [e1] at hm ⊢
    have r0 := Int.emod_nonneg (-a) (show m ≠ 0 by omega)
    have r1 := Int.emod_lt_of_pos (-a) m0
    have q0 := Int.ediv_nonneg h' (Int.le_of_lt m0)
    have q1 := Int.ediv_le_self m h'
    have e3 := Int.mul_ediv_add_emod (-a) m
    generalize -a / m = q at *
    generalize -a % m = r at *
    have e4 : m * -q = -(m * q) := Int.mul_neg _ _
    refine ⟨by omega, by omega, by omega, by omega, fun hh => ?_, fun hh => ?_⟩
    · have := (Int.ediv_emod_unique (a := a) (r := 0) (q := -q) m0).2 ⟨by omega, by omega, by omega⟩
      exact this.1.symm
    · have := (Int.ediv_emod_unique (a := a) (r := -r + m) (q := -q - 1) m0).2 ⟨by rw [Int.mul_sub, Int.mul_one]; omega, by omega, by omega⟩
      exact this.1.symm
theorem floor_any (a m : Int) (w : World) (a0 : -4611686018427387904 ≤ a) (a1 : a ≤ 4611686018427387904) (m0 : 0 < m) (m1 : m ≤ 4294967296) :
    Calls Tryz.prog 98 #[.int .i64 a, .int .i64 m] w fun e w' => e = .returned (.int .i64 (a / m)) ∧ w' = w := by
  obtain ⟨t1, t2, t3, t4, t5⟩ := floor_facts a m a0 a1 m0 m1
  obtain ⟨D, hD⟩ : ∃ D, a.tdiv m = D := ⟨_, rfl⟩
  obtain ⟨P, hP⟩ : ∃ P, D * m = P := ⟨_, rfl⟩
  rw [hD, hP] at t3 t4
  rw [hD, hP] at t5
  rw [hD] at t1 t2
  have E : Hid _ := t5
  clear t5
  cases hr : decide (P ≤ a)
  · have hr' : a < P := by simpa using hr
    have EE : Hid _ := E.out.2 hr'
    clear hr E
    go_enter Tryz.func98, Tryz.ntmps98
    go_wp2
    go_ret
    exact ⟨ret_int EE.out, rfl⟩
  · have hr' : P ≤ a := by simpa using hr
    have EE : Hid _ := E.out.1 hr'
    clear hr E
    go_enter Tryz.func98, Tryz.ntmps98
    go_wp2
    go_ret
    exact ⟨ret_int EE.out, rfl⟩

theorem quo_facts (b m : Int) (b0 : -2147483648 ≤ b) (b1 : b < 2147483648) (m0 : 0 < m) (m1 : m < 2147483648) :
    -4294967296 ≤ b / m ∧ b / m ≤ 4294967296 ∧ -4294967296 ≤ b / m * m ∧ b / m * m ≤ 4294967296 := by
  have e := Int.mul_ediv_add_emod b m
  have r0 := Int.emod_nonneg b (show m ≠ 0 by omega)
  have r1 := Int.emod_lt_of_pos b m0
  obtain ⟨t1, t2, t3, t4, t5, t6⟩ := tdiv_facts b m b0 b1 m0 m1
  have hm : m * (b / m) = b / m * m := Int.mul_comm _ _
  by_cases h : b.tmod m < 0
  · have := (t6 h).1
    omega
  · have := (t5 (by omega)).1
    omega
theorem rem_word (b m : Int) (m0 : 0 < m) (m1 : m < 2147483648) : 0 ≤ b % m ∧ b % m < 2147483648 := by
  have r0 := Int.emod_nonneg b (show m ≠ 0 by omega)
  have r1 := Int.emod_lt_of_pos b m0
  omega
end Go.Proofs.YtjneaphlghfbhaaGreatDoor.Alu
