/-
  The document's own layer 3 (package spinetref03): its operations as one, and its conditions; they answer what package alu answers.
-/
import Derived.Test.YtjneaphlghfbhaaGreatDoorAlu6
import Derived.Deep.Cut
namespace Go.Proofs.YtjneaphlghfbhaaGreatDoor.Alu
open Go.RowKit Go.Proofs.YtjneaphlghfbhaaGreatDoor.Bits Go.Proofs.YtjneaphlghfbhaaGreatDoor.Gw
set_option linter.unusedVariables false

theorem and_bd (b n : Int) (b0 : 0 ≤ b) (b1 : b < 4294967296) (n0 : 0 ≤ n) (n1 : n < 4294967296) : 0 ≤ Go.bits .and .u32 b n ∧ Go.bits .and .u32 b n < 4294967296 := by
  rw [u32_and b n b0 b1 n0 n1]
  have hx : b.toNat &&& n.toNat < 2 ^ 32 := Nat.and_lt_two_pow _ (by omega)
  omega
theorem ann_bd (b n : Int) (b0 : 0 ≤ b) (b1 : b < 4294967296) (n0 : 0 ≤ n) (n1 : n < 4294967296) : 0 ≤ Go.bits .andNot .u32 b n ∧ Go.bits .andNot .u32 b n < 4294967296 := by
  rw [u32_andNot b n b0 b1 n0 n1]
  have hx : b.toNat &&& (4294967295 - n.toNat) < 2 ^ 32 := Nat.and_lt_two_pow _ (by omega)
  omega
theorem or_bd (b n : Int) (b0 : 0 ≤ b) (b1 : b < 4294967296) (n0 : 0 ≤ n) (n1 : n < 4294967296) : 0 ≤ Go.bits .or .u32 b n ∧ Go.bits .or .u32 b n < 4294967296 := by
  rw [u32_or b n b0 b1 n0 n1]
  have hx : b.toNat ||| n.toNat < 2 ^ 32 := Nat.or_lt_two_pow (by omega) (by omega)
  omega
theorem xor_bd (b n : Int) (b0 : 0 ≤ b) (b1 : b < 4294967296) (n0 : 0 ≤ n) (n1 : n < 4294967296) : 0 ≤ Go.bits .xor .u32 b n ∧ Go.bits .xor .u32 b n < 4294967296 := by
  rw [u32_xor b n b0 b1 n0 n1]
  have hx : b.toNat ^^^ n.toNat < 2 ^ 32 := Nat.xor_lt_two_pow (by omega) (by omega)
  omega
theorem mod_bd (x : Int) : 0 ≤ x % 4294967296 ∧ x % 4294967296 < 4294967296 := by omega
theorem asr_bd (b n : Int) : 0 ≤ asrI b n ∧ asrI b n < 4294967296 := by unfold asrI; exact mod_bd _
theorem divQ_bd (b n : Int) : 0 ≤ divQ b n ∧ divQ b n < 4294967296 := by
  unfold divQ; split
  · omega
  · exact mod_bd _

def rdoV (op : Int) (u : Bool) (b n h : Int) (C V : Bool) : Value :=
  if okB op u = true then told (rI op u b n h C) (hI op u b n h) (cB op u b n C) (vB op u b n C V) else none7

theorem rdo_any (op : Int) (u : Bool) (b n h : Int) (N Z C V : Bool) (w : World) (b0 : 0 ≤ b) (b1 : b < 4294967296) (n0 : 0 ≤ n) (n1 : n < 4294967296) (h0' : 0 ≤ h) (h1' : h < 4294967296) :
    Calls Tryz.prog 64 #[.int .i64 op, .bool u, .int .u32 b, .int .u32 n, .int .u32 h, fl N Z C V] w fun e w' => e = .returned (rdoV op u b n h C V) ∧ ∃ p : By, w' = gr w p := by
  by_cases l : op < 0
  · have e : rdoV op u b n h C V = none7 := by unfold rdoV; rw [if_neg]; simp [okB]; omega
    rw [e]; exact rdo_low op u b n h N Z C V w b0 b1 n0 n1 l
  by_cases t : 11 < op
  · have e : rdoV op u b n h C V = none7 := by unfold rdoV; rw [if_neg]; simp [okB]; omega
    rw [e]; exact rdo_high op u b n h N Z C V w b0 b1 n0 n1 t
  by_cases m : u = true ∧ mayB op = false
  · obtain ⟨rfl, m⟩ := m
    have e : rdoV op true b n h C V = none7 := by unfold rdoV; rw [if_neg]; simp [okB, m]
    rw [e]
    have m' := of_decide_eq_false m
    by_cases h11 : op = 11
    · subst h11; exact rdo_not11 b n h N Z C V w b0 b1 n0 n1
    · exact rdo_not op b n h N Z C V w b0 b1 n0 n1 (by omega) (by omega)
  have o : okB op u = true := by
    have d : decide (0 ≤ op ∧ op ≤ 11) = true := by simp; omega
    unfold okB; rw [d]
    cases u <;> cases hm : mayB op <;> simp_all
  unfold rdoV
  rw [if_pos o]
  by_cases h0 : op = 0
  · subst h0
    have := rdo_mov u b n h N Z C V w b0 b1 n0 n1
    rw [told_is _ _ _ _ (by split <;> assumption) (by split <;> assumption)] at this
    exact this
  by_cases h8 : op = 8
  · subst h8
    have := rdo_add u b n h N Z C V w b0 b1 n0 n1
    rw [told_is _ _ _ _ (mod_bd _).1 (mod_bd _).2] at this
    exact this
  by_cases h9 : op = 9
  · subst h9
    have := rdo_sub u b n h N Z C V w b0 b1 n0 n1
    rw [told_is _ _ _ _ (mod_bd _).1 (mod_bd _).2] at this
    exact this
  by_cases h10 : op = 10
  · subst h10
    cases u
    · have := rdo_muls b n h N Z C V w b0 b1 n0 n1
      rw [told_is _ _ _ _ (mod_bd _).1 (mod_bd _).2] at this
      exact this
    · have := rdo_mulu b n h N Z C V w b0 b1 n0 n1
      rw [told_is _ _ _ _ (mod_bd _).1 (mod_bd _).2] at this
      exact this
  have hu : u = false := by
    cases u
    · rfl
    · exfalso; apply m; refine ⟨rfl, ?_⟩; simp [mayB, h0, h8, h9, h10]
  subst hu
  by_cases h11 : op = 11
  · subst h11
    have := rdo_div b n h N Z C V w b0 b1 n0 n1
    rw [told_is _ _ _ _ (divQ_bd _ _).1 (divQ_bd _ _).2] at this
    exact this
  by_cases g1 : op = 1
  · subst g1
    have := rdo_1 b n h N Z C V w b0 b1 n0 n1
    rw [told_is _ _ _ _ (lsl_range b n).1 (lsl_range b n).2] at this
    exact this
  by_cases g2 : op = 2
  · subst g2
    have := rdo_2 b n h N Z C V w b0 b1 n0 n1
    rw [told_is _ _ _ _ (asr_bd b n).1 (asr_bd b n).2] at this
    exact this
  by_cases g3 : op = 3
  · subst g3
    have := rdo_3 b n h N Z C V w b0 b1 n0 n1
    rw [told_is _ _ _ _ (ror_range b n b0 b1).1 (ror_range b n b0 b1).2] at this
    exact this
  by_cases g4 : op = 4
  · subst g4
    have := rdo_4 b n h N Z C V w b0 b1 n0 n1
    rw [told_is _ _ _ _ (and_bd b n b0 b1 n0 n1).1 (and_bd b n b0 b1 n0 n1).2] at this
    exact this
  by_cases g5 : op = 5
  · subst g5
    have := rdo_5 b n h N Z C V w b0 b1 n0 n1
    rw [told_is _ _ _ _ (ann_bd b n b0 b1 n0 n1).1 (ann_bd b n b0 b1 n0 n1).2] at this
    exact this
  by_cases g6 : op = 6
  · subst g6
    have := rdo_6 b n h N Z C V w b0 b1 n0 n1
    rw [told_is _ _ _ _ (or_bd b n b0 b1 n0 n1).1 (or_bd b n b0 b1 n0 n1).2] at this
    exact this
  have g7 : op = 7 := by omega
  subst g7
  have := rdo_7 b n h N Z C V w b0 b1 n0 n1
  rw [told_is _ _ _ _ (xor_bd b n b0 b1 n0 n1).1 (xor_bd b n b0 b1 n0 n1).2] at this
  exact this


set_option maxHeartbeats 1000000 in
theorem rholds_0 (N Z C V : Bool) (w : World) :
    Calls Tryz.prog 67 #[.int .i64 0, .agg #[.bool N, .bool Z, .bool C, .bool V]] w fun e w' => e = .returned (.bool (holdsB 0 N Z C V)) ∧ w' = w.alloc (.cells #[.bool N, .bool Z, .bool C, .bool V] 59) := by
  cases N
  all_goals
    go_enter Tryz.func67, Tryz.ntmps67
    go_wp2
    go_ret
    exact ⟨rfl, rfl⟩

set_option maxHeartbeats 1000000 in
theorem rholds_1 (N Z C V : Bool) (w : World) :
    Calls Tryz.prog 67 #[.int .i64 1, .agg #[.bool N, .bool Z, .bool C, .bool V]] w fun e w' => e = .returned (.bool (holdsB 1 N Z C V)) ∧ w' = w.alloc (.cells #[.bool N, .bool Z, .bool C, .bool V] 59) := by
  cases Z
  all_goals
    go_enter Tryz.func67, Tryz.ntmps67
    go_wp2
    go_ret
    exact ⟨rfl, rfl⟩

set_option maxHeartbeats 1000000 in
theorem rholds_2 (N Z C V : Bool) (w : World) :
    Calls Tryz.prog 67 #[.int .i64 2, .agg #[.bool N, .bool Z, .bool C, .bool V]] w fun e w' => e = .returned (.bool (holdsB 2 N Z C V)) ∧ w' = w.alloc (.cells #[.bool N, .bool Z, .bool C, .bool V] 59) := by
  cases C
  all_goals
    go_enter Tryz.func67, Tryz.ntmps67
    go_wp2
    go_ret
    exact ⟨rfl, rfl⟩

set_option maxHeartbeats 1000000 in
theorem rholds_3 (N Z C V : Bool) (w : World) :
    Calls Tryz.prog 67 #[.int .i64 3, .agg #[.bool N, .bool Z, .bool C, .bool V]] w fun e w' => e = .returned (.bool (holdsB 3 N Z C V)) ∧ w' = w.alloc (.cells #[.bool N, .bool Z, .bool C, .bool V] 59) := by
  cases V
  all_goals
    go_enter Tryz.func67, Tryz.ntmps67
    go_wp2
    go_ret
    exact ⟨rfl, rfl⟩

set_option maxHeartbeats 1000000 in
theorem rholds_4 (N Z C V : Bool) (w : World) :
    Calls Tryz.prog 67 #[.int .i64 4, .agg #[.bool N, .bool Z, .bool C, .bool V]] w fun e w' => e = .returned (.bool (holdsB 4 N Z C V)) ∧ w' = w.alloc (.cells #[.bool N, .bool Z, .bool C, .bool V] 59) := by
  cases C <;> cases Z
  all_goals
    go_enter Tryz.func67, Tryz.ntmps67
    go_wp2
    go_ret
    exact ⟨rfl, rfl⟩

set_option maxHeartbeats 1000000 in
theorem rholds_5 (N Z C V : Bool) (w : World) :
    Calls Tryz.prog 67 #[.int .i64 5, .agg #[.bool N, .bool Z, .bool C, .bool V]] w fun e w' => e = .returned (.bool (holdsB 5 N Z C V)) ∧ w' = w.alloc (.cells #[.bool N, .bool Z, .bool C, .bool V] 59) := by
  cases N <;> cases V
  all_goals
    go_enter Tryz.func67, Tryz.ntmps67
    go_wp2
    go_ret
    exact ⟨rfl, rfl⟩

set_option maxHeartbeats 1000000 in
theorem rholds_6 (N Z C V : Bool) (w : World) :
    Calls Tryz.prog 67 #[.int .i64 6, .agg #[.bool N, .bool Z, .bool C, .bool V]] w fun e w' => e = .returned (.bool (holdsB 6 N Z C V)) ∧ w' = w.alloc (.cells #[.bool N, .bool Z, .bool C, .bool V] 59) := by
  cases N <;> cases V <;> cases Z
  all_goals
    go_enter Tryz.func67, Tryz.ntmps67
    go_wp2
    go_ret
    exact ⟨rfl, rfl⟩

set_option maxHeartbeats 1000000 in
theorem rholds_7 (N Z C V : Bool) (w : World) :
    Calls Tryz.prog 67 #[.int .i64 7, .agg #[.bool N, .bool Z, .bool C, .bool V]] w fun e w' => e = .returned (.bool (holdsB 7 N Z C V)) ∧ w' = w.alloc (.cells #[.bool N, .bool Z, .bool C, .bool V] 59) := by
  go_enter Tryz.func67, Tryz.ntmps67
  go_wp2
  go_ret
  exact ⟨rfl, rfl⟩

set_option maxHeartbeats 1000000 in
theorem rholds_8 (N Z C V : Bool) (w : World) :
    Calls Tryz.prog 67 #[.int .i64 8, .agg #[.bool N, .bool Z, .bool C, .bool V]] w fun e w' => e = .returned (.bool (holdsB 8 N Z C V)) ∧ w' = w.alloc (.cells #[.bool N, .bool Z, .bool C, .bool V] 59) := by
  cases N
  all_goals
    go_enter Tryz.func67, Tryz.ntmps67
    go_wp2
    go_ret
    exact ⟨rfl, rfl⟩

set_option maxHeartbeats 1000000 in
theorem rholds_9 (N Z C V : Bool) (w : World) :
    Calls Tryz.prog 67 #[.int .i64 9, .agg #[.bool N, .bool Z, .bool C, .bool V]] w fun e w' => e = .returned (.bool (holdsB 9 N Z C V)) ∧ w' = w.alloc (.cells #[.bool N, .bool Z, .bool C, .bool V] 59) := by
  cases Z
  all_goals
    go_enter Tryz.func67, Tryz.ntmps67
    go_wp2
    go_ret
    exact ⟨rfl, rfl⟩

set_option maxHeartbeats 1000000 in
theorem rholds_10 (N Z C V : Bool) (w : World) :
    Calls Tryz.prog 67 #[.int .i64 10, .agg #[.bool N, .bool Z, .bool C, .bool V]] w fun e w' => e = .returned (.bool (holdsB 10 N Z C V)) ∧ w' = w.alloc (.cells #[.bool N, .bool Z, .bool C, .bool V] 59) := by
  cases C
  all_goals
    go_enter Tryz.func67, Tryz.ntmps67
    go_wp2
    go_ret
    exact ⟨rfl, rfl⟩

set_option maxHeartbeats 1000000 in
theorem rholds_11 (N Z C V : Bool) (w : World) :
    Calls Tryz.prog 67 #[.int .i64 11, .agg #[.bool N, .bool Z, .bool C, .bool V]] w fun e w' => e = .returned (.bool (holdsB 11 N Z C V)) ∧ w' = w.alloc (.cells #[.bool N, .bool Z, .bool C, .bool V] 59) := by
  cases V
  all_goals
    go_enter Tryz.func67, Tryz.ntmps67
    go_wp2
    go_ret
    exact ⟨rfl, rfl⟩

set_option maxHeartbeats 1000000 in
theorem rholds_12 (N Z C V : Bool) (w : World) :
    Calls Tryz.prog 67 #[.int .i64 12, .agg #[.bool N, .bool Z, .bool C, .bool V]] w fun e w' => e = .returned (.bool (holdsB 12 N Z C V)) ∧ w' = w.alloc (.cells #[.bool N, .bool Z, .bool C, .bool V] 59) := by
  cases C <;> cases Z
  all_goals
    go_enter Tryz.func67, Tryz.ntmps67
    go_wp2
    go_ret
    exact ⟨rfl, rfl⟩

set_option maxHeartbeats 1000000 in
theorem rholds_13 (N Z C V : Bool) (w : World) :
    Calls Tryz.prog 67 #[.int .i64 13, .agg #[.bool N, .bool Z, .bool C, .bool V]] w fun e w' => e = .returned (.bool (holdsB 13 N Z C V)) ∧ w' = w.alloc (.cells #[.bool N, .bool Z, .bool C, .bool V] 59) := by
  cases N <;> cases V
  all_goals
    go_enter Tryz.func67, Tryz.ntmps67
    go_wp2
    go_ret
    exact ⟨rfl, rfl⟩

set_option maxHeartbeats 1000000 in
theorem rholds_14 (N Z C V : Bool) (w : World) :
    Calls Tryz.prog 67 #[.int .i64 14, .agg #[.bool N, .bool Z, .bool C, .bool V]] w fun e w' => e = .returned (.bool (holdsB 14 N Z C V)) ∧ w' = w.alloc (.cells #[.bool N, .bool Z, .bool C, .bool V] 59) := by
  cases N <;> cases V <;> cases Z
  all_goals
    go_enter Tryz.func67, Tryz.ntmps67
    go_wp2
    go_ret
    exact ⟨rfl, rfl⟩

set_option maxHeartbeats 1000000 in
theorem rholds_15 (N Z C V : Bool) (w : World) :
    Calls Tryz.prog 67 #[.int .i64 15, .agg #[.bool N, .bool Z, .bool C, .bool V]] w fun e w' => e = .returned (.bool (holdsB 15 N Z C V)) ∧ w' = w.alloc (.cells #[.bool N, .bool Z, .bool C, .bool V] 59) := by
  go_enter Tryz.func67, Tryz.ntmps67
  go_wp2
  go_ret
  exact ⟨rfl, rfl⟩

set_option maxHeartbeats 2000000 in
theorem rholds_out (c : Int) (N Z C V : Bool) (w : World) (h : c < 0 ∨ 15 < c) (c0 : -9223372036854775808 ≤ c) (c1 : c ≤ 9223372036854775807) :
    Calls Tryz.prog 67 #[.int .i64 c, .agg #[.bool N, .bool Z, .bool C, .bool V]] w fun e w' => e = .returned (.bool false) ∧ G w w' := by
  obtain ⟨m, hm⟩ : ∃ m, c.tmod 8 = m := ⟨_, rfl⟩
  have m0 : -8 < m := by
    have := Int.lt_tmod_of_pos c (show (0 : Int) < 8 by decide); omega
  have m1 : m < 8 := by
    have := Int.tmod_lt_of_pos c (show (0 : Int) < 8 by decide); omega
  rcases h with h | h
  · go_enter Tryz.func67, Tryz.ntmps67
    go_wp2
    all_goals go_ret
    all_goals exact ⟨ret_bool (by first | rfl | (rw [decide_eq_false_iff_not]; omega)), (G.refl w).alloc _ _⟩
  · go_enter Tryz.func67, Tryz.ntmps67
    go_wp2
    all_goals go_ret
    all_goals exact ⟨ret_bool (by first | rfl | (rw [decide_eq_false_iff_not]; omega)), (G.refl w).alloc _ _⟩
theorem rholds_any (c : Int) (N Z C V : Bool) (w : World) (c0 : -9223372036854775808 ≤ c) (c1 : c ≤ 9223372036854775807) :
    Calls Tryz.prog 67 #[.int .i64 c, fl N Z C V] w fun e w' => e = .returned (.bool (holdsB c N Z C V)) ∧ ∃ p : By, w' = gr w p := by
  have Y : ∀ v : Value, (Calls Tryz.prog 67 #[.int .i64 c, .agg #[.bool N, .bool Z, .bool C, .bool V]] w fun e w' => e = .returned v ∧ w' = w.alloc (.cells #[.bool N, .bool Z, .bool C, .bool V] 59)) →
      Calls Tryz.prog 67 #[.int .i64 c, .agg #[.bool N, .bool Z, .bool C, .bool V]] w fun e w' => e = .returned v ∧ ∃ p : By, w' = gr w p :=
    fun v h => h.mono fun e w' he => ⟨he.1, by rw [he.2]; exact (G.refl w).alloc _ _⟩
  unfold fl
  by_cases g0 : c = 0
  · subst g0; exact Y _ (rholds_0 N Z C V w)
  by_cases g1 : c = 1
  · subst g1; exact Y _ (rholds_1 N Z C V w)
  by_cases g2 : c = 2
  · subst g2; exact Y _ (rholds_2 N Z C V w)
  by_cases g3 : c = 3
  · subst g3; exact Y _ (rholds_3 N Z C V w)
  by_cases g4 : c = 4
  · subst g4; exact Y _ (rholds_4 N Z C V w)
  by_cases g5 : c = 5
  · subst g5; exact Y _ (rholds_5 N Z C V w)
  by_cases g6 : c = 6
  · subst g6; exact Y _ (rholds_6 N Z C V w)
  by_cases g7 : c = 7
  · subst g7; exact Y _ (rholds_7 N Z C V w)
  by_cases g8 : c = 8
  · subst g8; exact Y _ (rholds_8 N Z C V w)
  by_cases g9 : c = 9
  · subst g9; exact Y _ (rholds_9 N Z C V w)
  by_cases g10 : c = 10
  · subst g10; exact Y _ (rholds_10 N Z C V w)
  by_cases g11 : c = 11
  · subst g11; exact Y _ (rholds_11 N Z C V w)
  by_cases g12 : c = 12
  · subst g12; exact Y _ (rholds_12 N Z C V w)
  by_cases g13 : c = 13
  · subst g13; exact Y _ (rholds_13 N Z C V w)
  by_cases g14 : c = 14
  · subst g14; exact Y _ (rholds_14 N Z C V w)
  by_cases g15 : c = 15
  · subst g15; exact Y _ (rholds_15 N Z C V w)
  have e : holdsB c N Z C V = false := by
    unfold holdsB
    rw [if_neg (by omega)]
    simp [tellsB, *]
  rw [e]
  exact rholds_out c N Z C V w (by omega) c0 c1
end Go.Proofs.YtjneaphlghfbhaaGreatDoor.Alu
