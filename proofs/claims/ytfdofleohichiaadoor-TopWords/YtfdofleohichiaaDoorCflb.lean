/-
  The flags as a word: what cpu.flagBits tells.
-/
import Derived.Test.YtfdofleohichiaaDoorCrep
namespace Go.Proofs.YtfdofleohichiaaDoor.Cpu
open Go.RowKit Go.Proofs.YtfdofleohichiaaDoor.Bits Go.Proofs.YtfdofleohichiaaDoor.Gw Go.Proofs.YtfdofleohichiaaDoor.Risc Go.Proofs.YtfdofleohichiaaDoor.Alu Go.Proofs.YtfdofleohichiaaDoor.Mem

set_option maxHeartbeats 2000000 in
set_option maxRecDepth 100000 in
theorem flb_any (n z c v : Bool) (w : World) :
    Calls Tryd.prog 37 #[fl n z c v] w fun e w' => e = .returned (wd (flW n z c v)) ∧ ∃ p : By, w' = gr w p := by
  have q0 : putI 0 28 1 1 = 268435456 := by kernel_rfl
  have q1 : putI 0 29 1 1 = 536870912 := by kernel_rfl
  have q2 : putI 268435456 29 1 1 = 805306368 := by kernel_rfl
  have q3 : putI 0 30 1 1 = 1073741824 := by kernel_rfl
  have q4 : putI 268435456 30 1 1 = 1342177280 := by kernel_rfl
  have q5 : putI 536870912 30 1 1 = 1610612736 := by kernel_rfl
  have q6 : putI 805306368 30 1 1 = 1879048192 := by kernel_rfl
  have q7 : putI 0 31 1 1 = 2147483648 := by kernel_rfl
  have q8 : putI 268435456 31 1 1 = 2415919104 := by kernel_rfl
  have q9 : putI 536870912 31 1 1 = 2684354560 := by kernel_rfl
  have q10 : putI 805306368 31 1 1 = 2952790016 := by kernel_rfl
  have q11 : putI 1073741824 31 1 1 = 3221225472 := by kernel_rfl
  have q12 : putI 1342177280 31 1 1 = 3489660928 := by kernel_rfl
  have q13 : putI 1610612736 31 1 1 = 3758096384 := by kernel_rfl
  have q14 : putI 1879048192 31 1 1 = 4026531840 := by kernel_rfl
  have i0 : ∀ w, (Instr.index 97 (.agg #[.bool v, .bool c, .bool z, .bool n]) (.int .i64 0)).run Tryd.prog w = .ok (.bool v) w := fun _ => by kernel_rfl
  have i1 : ∀ w, (Instr.index 97 (.agg #[.bool v, .bool c, .bool z, .bool n]) (.int .i64 1)).run Tryd.prog w = .ok (.bool c) w := fun _ => by kernel_rfl
  have i2 : ∀ w, (Instr.index 97 (.agg #[.bool v, .bool c, .bool z, .bool n]) (.int .i64 2)).run Tryd.prog w = .ok (.bool z) w := fun _ => by kernel_rfl
  have i3 : ∀ w, (Instr.index 97 (.agg #[.bool v, .bool c, .bool z, .bool n]) (.int .i64 3)).run Tryd.prog w = .ok (.bool n) w := fun _ => by kernel_rfl
  unfold fl
  cases n <;> cases z <;> cases c <;> cases v
  all_goals
    go_enter Tryd.func37, Tryd.ntmps37
    go_wp2
    refine wp_loop_rounds 5 ?_
    (rw [rounds_succ]; go_wp2_with (go_at_call 46; refine (put_any _ _ _ _ _ (by decide) (by decide) (by decide) (by decide) (by decide)).mono ?_; rintro e w' ⟨rfl, rfl⟩))
    (rw [rounds_succ]; go_wp2_with (go_at_call 46; refine (put_any _ _ _ _ _ (by decide) (by decide) (by decide) (by decide) (by decide)).mono ?_; rintro e w' ⟨rfl, rfl⟩))
    (rw [rounds_succ]; go_wp2_with (go_at_call 46; refine (put_any _ _ _ _ _ (by decide) (by decide) (by decide) (by decide) (by decide)).mono ?_; rintro e w' ⟨rfl, rfl⟩))
    (rw [rounds_succ]; go_wp2_with (go_at_call 46; refine (put_any _ _ _ _ _ (by decide) (by decide) (by decide) (by decide) (by decide)).mono ?_; rintro e w' ⟨rfl, rfl⟩))
    rw [rounds_succ]
    go_wp2
    go_ret
    exact ⟨rfl, (G.refl _).alloc _ _⟩
end Go.Proofs.YtfdofleohichiaaDoor.Cpu
