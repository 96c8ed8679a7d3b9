/-
  Package risc: which marks stand in the table, and what operates answers.
-/
import Derived.Test.YtfdofleohichiaaGreatDoorRisc2
import Derived.LoopN
namespace Go.Proofs.YtfdofleohichiaaGreatDoor.Risc
open Go.RowKit Go.Proofs.YtfdofleohichiaaGreatDoor.Bits Go.Proofs.YtfdofleohichiaaGreatDoor.Gw

def idxI (op : Int) (u v : Bool) : Int :=
  if u = false then -1 else if v = true then (if op = 0 then 1 else -1) else if op = 0 then 0 else if op = 8 then 2 else if op = 9 then 3 else if op = 10 then 4 else -1

set_option maxHeartbeats 1000000 in
theorem index_any (op : Int) (u v : Bool) (w : World) (L : Laid w) :
    Calls Tryz.prog 147 #[.slice (some ⟨13, 0, none⟩) 5 5, .agg #[.int .i64 op, .bool u, .bool v]] w fun e w' => e = .returned (.int .i64 (idxI op u v)) ∧ ∃ p : By, w' = gr w p := by
  have LW := L.g ((G.refl w).alloc #[.int .i64 op, .bool u, .bool v] 159)
  have sW := LW.size
  obtain ⟨a0, a1, a2⟩ := LW.m0
  obtain ⟨b0, b1, b2⟩ := LW.m1
  obtain ⟨c0, c1, c2⟩ := LW.m2
  obtain ⟨d0, d1, d2⟩ := LW.m3
  obtain ⟨e0, e1, e2⟩ := LW.m4
  clear LW sW
  cases u
  · cases v
    · skip
      go_enter Tryz.func147, Tryz.ntmps147
      go_wp2
      refine wp_loop_rounds 6 ?_
      (rw [rounds_succ]; go_wp2; go_quiet (fail); go_wp2)
      (rw [rounds_succ]; go_wp2; go_quiet (fail); go_wp2)
      (rw [rounds_succ]; go_wp2; go_quiet (fail); go_wp2)
      (rw [rounds_succ]; go_wp2; go_quiet (fail); go_wp2)
      (rw [rounds_succ]; go_wp2; go_quiet (fail); go_wp2)
      rw [rounds_succ]
      go_wp2
      go_ret
      exact ⟨ret_int (by simp [idxI]), (by show G w _; with_reducible repeat' (first | exact G.refl _ | apply G.drewN | apply G.alloc))⟩
    · skip
      go_enter Tryz.func147, Tryz.ntmps147
      go_wp2
      refine wp_loop_rounds 6 ?_
      (rw [rounds_succ]; go_wp2; go_quiet (fail); go_wp2)
      (rw [rounds_succ]; go_wp2; go_quiet (fail); go_wp2)
      (rw [rounds_succ]; go_wp2; go_quiet (fail); go_wp2)
      (rw [rounds_succ]; go_wp2; go_quiet (fail); go_wp2)
      (rw [rounds_succ]; go_wp2; go_quiet (fail); go_wp2)
      rw [rounds_succ]
      go_wp2
      go_ret
      exact ⟨ret_int (by simp [idxI]), (by show G w _; with_reducible repeat' (first | exact G.refl _ | apply G.drewN | apply G.alloc))⟩
  · cases v
    · by_cases h0 : op = 0
      · subst h0
        go_enter Tryz.func147, Tryz.ntmps147
        go_wp2
        refine wp_loop_rounds 6 ?_
        (rw [rounds_succ]; go_wp2; go_quiet (fail); go_wp2)
        go_ret
        exact ⟨ret_int (by simp [idxI]), (by show G w _; with_reducible repeat' (first | exact G.refl _ | apply G.drewN | apply G.alloc))⟩
      have f0 : (op == 0) = false := by simp [h0]
      by_cases h8 : op = 8
      · subst h8
        go_enter Tryz.func147, Tryz.ntmps147
        go_wp2
        refine wp_loop_rounds 6 ?_
        (rw [rounds_succ]; go_wp2; go_quiet (fail); go_wp2)
        (rw [rounds_succ]; go_wp2; go_quiet (fail); go_wp2)
        (rw [rounds_succ]; go_wp2; go_quiet (fail); go_wp2)
        go_ret
        exact ⟨ret_int (by simp [idxI]), (by show G w _; with_reducible repeat' (first | exact G.refl _ | apply G.drewN | apply G.alloc))⟩
      have f8 : (op == 8) = false := by simp [h8]
      by_cases h9 : op = 9
      · subst h9
        go_enter Tryz.func147, Tryz.ntmps147
        go_wp2
        refine wp_loop_rounds 6 ?_
        (rw [rounds_succ]; go_wp2; go_quiet (fail); go_wp2)
        (rw [rounds_succ]; go_wp2; go_quiet (fail); go_wp2)
        (rw [rounds_succ]; go_wp2; go_quiet (fail); go_wp2)
        (rw [rounds_succ]; go_wp2; go_quiet (fail); go_wp2)
        go_ret
        exact ⟨ret_int (by simp [idxI]), (by show G w _; with_reducible repeat' (first | exact G.refl _ | apply G.drewN | apply G.alloc))⟩
      have f9 : (op == 9) = false := by simp [h9]
      by_cases h10 : op = 10
      · subst h10
        go_enter Tryz.func147, Tryz.ntmps147
        go_wp2
        refine wp_loop_rounds 6 ?_
        (rw [rounds_succ]; go_wp2; go_quiet (fail); go_wp2)
        (rw [rounds_succ]; go_wp2; go_quiet (fail); go_wp2)
        (rw [rounds_succ]; go_wp2; go_quiet (fail); go_wp2)
        (rw [rounds_succ]; go_wp2; go_quiet (fail); go_wp2)
        (rw [rounds_succ]; go_wp2; go_quiet (fail); go_wp2)
        go_ret
        exact ⟨ret_int (by simp [idxI]), (by show G w _; with_reducible repeat' (first | exact G.refl _ | apply G.drewN | apply G.alloc))⟩
      have f10 : (op == 10) = false := by simp [h10]
      go_enter Tryz.func147, Tryz.ntmps147
      go_wp2
      refine wp_loop_rounds 6 ?_
      (rw [rounds_succ]; go_wp2; go_quiet (fail); go_wp2)
      (rw [rounds_succ]; go_wp2; go_quiet (fail); go_wp2)
      (rw [rounds_succ]; go_wp2; go_quiet (fail); go_wp2)
      (rw [rounds_succ]; go_wp2; go_quiet (fail); go_wp2)
      (rw [rounds_succ]; go_wp2; go_quiet (fail); go_wp2)
      rw [rounds_succ]
      go_wp2
      go_ret
      exact ⟨ret_int (by simp [idxI, h0, h8, h9, h10]), (by show G w _; with_reducible repeat' (first | exact G.refl _ | apply G.drewN | apply G.alloc))⟩
    · by_cases h0 : op = 0
      · subst h0
        go_enter Tryz.func147, Tryz.ntmps147
        go_wp2
        refine wp_loop_rounds 6 ?_
        (rw [rounds_succ]; go_wp2; go_quiet (fail); go_wp2)
        (rw [rounds_succ]; go_wp2; go_quiet (fail); go_wp2)
        go_ret
        exact ⟨ret_int (by simp [idxI]), (by show G w _; with_reducible repeat' (first | exact G.refl _ | apply G.drewN | apply G.alloc))⟩
      have f0 : (op == 0) = false := by simp [h0]
      go_enter Tryz.func147, Tryz.ntmps147
      go_wp2
      refine wp_loop_rounds 6 ?_
      (rw [rounds_succ]; go_wp2; go_quiet (fail); go_wp2)
      (rw [rounds_succ]; go_wp2; go_quiet (fail); go_wp2)
      (rw [rounds_succ]; go_wp2; go_quiet (fail); go_wp2)
      (rw [rounds_succ]; go_wp2; go_quiet (fail); go_wp2)
      (rw [rounds_succ]; go_wp2; go_quiet (fail); go_wp2)
      rw [rounds_succ]
      go_wp2
      go_ret
      exact ⟨ret_int (by simp [idxI, h0]), (by show G w _; with_reducible repeat' (first | exact G.refl _ | apply G.drewN | apply G.alloc))⟩

theorem contains_any (op : Int) (u v : Bool) (w : World) (L : Laid w) :
    Calls Tryz.prog 108 #[.slice (some ⟨13, 0, none⟩) 5 5, .agg #[.int .i64 op, .bool u, .bool v]] w fun e w' => e = .returned (.bool (decide (0 ≤ idxI op u v))) ∧ ∃ p : By, w' = gr w p := by
  have LW := L.g ((G.refl w).alloc #[.int .i64 op, .bool u, .bool v] 159)
  go_enter Tryz.func108, Tryz.ntmps108
  go_wp2_with (go_at_call 147; refine (index_any _ _ _ _ LW).mono ?_; rintro e w' ⟨rfl, p, rfl⟩)
  go_ret
  exact ⟨rfl, ((G.refl _).alloc _ _).gr _⟩
end Go.Proofs.YtfdofleohichiaaGreatDoor.Risc
