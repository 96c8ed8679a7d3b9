/-
  What the laws of layer 3 ask of fixed words.
-/
import Derived.Test.YtgbbppgedeikkaaAlu3
namespace Go.Proofs.Ytgbbppgedeikkaa.Alu
open Go.RowKit Go.Proofs.Ytgbbppgedeikkaa.Bits Go.Proofs.Ytgbbppgedeikkaa.Gw

theorem wake1 : doV 11 false 4294967289 2 0 false false = .tuple #[.int .u32 4294967292, .int .u32 1, .agg #[.bool true, .bool false, .bool false, .bool false], .bool true] := by kernel_rfl
theorem wake2 : doV 9 false 0 1 0 false false = .tuple #[.int .u32 4294967295, .int .u32 0, .agg #[.bool true, .bool false, .bool true, .bool false], .bool true] := by kernel_rfl
theorem wake3 : holdsB 5 true false true false = true := by kernel_rfl
set_option maxHeartbeats 1000000 in
theorem wakes_any (w : World) : Calls Try.prog 12 #[] w fun e w' => e = .returned (.bool true) ∧ ∃ p : By, w' = gr w p := by
  have D1 := fun w => do_any 11 false 4294967289 2 0 false false false false w (by decide) (by decide) (by decide) (by decide)
  have D2 := fun w => do_any 9 false 0 1 0 false false false false w (by decide) (by decide) (by decide) (by decide)
  have H := fun w => holds_any 5 true false true false w (by decide)
  rw [wake1] at D1
  rw [wake2] at D2
  rw [wake3] at H
  unfold fl at D1 D2 H
  go_enter Try.func12, Try.ntmps12
  go_upto_region 2 with (first | (go_at_call 9; refine (D1 _).mono ?_; rintro e w' ⟨rfl, p, rfl⟩))
  go_wp2_with (first | (go_at_call 9; refine (D2 _).mono ?_; rintro e w' ⟨rfl, p, rfl⟩) | (go_at_call 13; refine (H _).mono ?_; rintro e w' ⟨rfl, p, rfl⟩))
  go_ret
  exact ⟨rfl, by show G w _; with_reducible repeat' (first | exact G.refl _ | apply G.gr | apply G.alloc | apply G.drew | apply G.drewN)⟩
end Go.Proofs.Ytgbbppgedeikkaa.Alu
