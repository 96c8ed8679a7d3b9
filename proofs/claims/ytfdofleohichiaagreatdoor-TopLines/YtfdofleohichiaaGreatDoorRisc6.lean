/-
  Package risc: what Good, Encode and Decode answer.
-/
import Derived.Test.YtfdofleohichiaaGreatDoorRisc3
import Derived.Test.YtfdofleohichiaaGreatDoorRisc5
namespace Go.Proofs.YtfdofleohichiaaGreatDoor.Risc
open Go.RowKit Go.Proofs.YtfdofleohichiaaGreatDoor.Bits Go.Proofs.YtfdofleohichiaaGreatDoor.Gw

/- Is the value what its own word's bits say? -/
def backB (f : Int) (u v : Bool) (a b c op im : Int) : Bool :=
  decide (uF (packI f u v a b c op im) = f ∧ uU (packI f u v a b c op im) = u ∧ uV (packI f u v a b c op im) = v ∧ uA (packI f u v a b c op im) = a ∧
    uB (packI f u v a b c op im) = b ∧ uC (packI f u v a b c op im) = c ∧ uOp (packI f u v a b c op im) = op ∧ uIm (packI f u v a b c op im) = im)
def goodB (f : Int) (u v : Bool) (a b c op im : Int) : Bool := backB f u v a b c op im && operB f u v op

theorem pack_range (f : Int) (u v : Bool) (a b c op im : Int) : U32 (packI f u v a b c op im) := by
  unfold packI headI
  split
  · exact U32.zero.put.put.put.put.put.put.put
  split
  · exact U32.zero.put.put.put.put.put.put.put
  split
  · exact U32.zero.put.put.put.put.put.put
  split
  · exact U32.zero.put.put.put.put.put
  · exact U32.zero.put.put.put.put.put

set_option maxHeartbeats 1000000 in
theorem good_any (f : Int) (u v : Bool) (a b c op im : Int) (w : World) (L : Laid w) :
    Calls Tryz.prog 98 #[ins f u v a b c op im] w fun e w' => e = .returned (.bool (goodB f u v a b c op im)) ∧ ∃ p : By, w' = gr w p := by
  obtain ⟨k0, k1, k2, k3, k4, k5, k6, k7⟩ := box_facts f u v a b c op im w
  have LW : ∀ p : By, Laid (gr (w.alloc (.cells #[.int .i64 f, .bool u, .bool v, .int .i64 a, .int .i64 b, .int .i64 c, .int .i64 op, .int .i64 im] 72)) p) := fun p => L.g (((G.refl w).alloc _ _).gr p)
  have hr := pack_range f u v a b c op im
  obtain ⟨X, hX⟩ : ∃ X, packI f u v a b c op im = X := ⟨_, rfl⟩
  rw [hX] at hr
  have HX : Hid (packI f u v a b c op im = X) := hX
  have PK : ∀ W, Laid W → Calls Tryz.prog 66 #[ins f u v a b c op im] W fun e w' => e = .returned (.int .u32 X) ∧ ∃ p : By, w' = gr W p := fun W hW => hX ▸ pack_any f u v a b c op im W hW
  have r0 := hr.1
  have r1 := hr.2
  clear hX hr
  by_cases h : uF X = f ∧ uU X = u ∧ uV X = v ∧ uA X = a ∧ uB X = b ∧ uC X = c ∧ uOp X = op ∧ uIm X = im
  · have E : Hid (operB f u v op = goodB f u v a b c op im) := by
      show operB f u v op = goodB f u v a b c op im
      unfold goodB backB
      rw [HX.out, decide_eq_true h]; rfl
    obtain ⟨e1, e2, e3, e4, e5, e6, e7, e8⟩ := h
    have UN : ∀ W, Laid W → Calls Tryz.prog 65 #[.int .u32 X] W fun e w' => e = .returned (ins f u v a b c op im) ∧ ∃ p : By, w' = gr W p := fun W hW => by
      have := unpack_any X W hW r0 r1
      rwa [uIns, e1, e2, e3, e4, e5, e6, e7, e8] at this
    clear e1 e2 e3 e4 e5 e6 e7 e8 HX
    go_enter Tryz.func98, Tryz.ntmps98
    go_wp2
    refine region_gr0 (by kernel_rfl) (by kernel_rfl) ?_
    repeat (go_big_quiet_step (first
      | (go_at_call 66; exact calls_gr (PK _ (LW _)))
      | (go_at_call 65; exact calls_gr (UN _ (LW _)))
      | (go_at_call 67; exact calls_gr (oper_any _ _ _ _ _ _ _ _ _ (LW _)))))
    refine wpQuiet_nil ?_
    rintro _ ⟨pq, rfl⟩
    go_wp2
    go_ret
    exact ⟨ret_bool E.out, ((G.refl w).alloc _ _).gr _⟩
  · have E : Hid (false = goodB f u v a b c op im) := by
      show false = goodB f u v a b c op im
      unfold goodB backB
      rw [HX.out, decide_eq_false h]; rfl
    have UN : ∀ W, Laid W → Calls Tryz.prog 65 #[.int .u32 X] W fun e w' => e = .returned (uIns X) ∧ ∃ p : By, w' = gr W p := fun W hW => unpack_any X W hW r0 r1
    obtain ⟨f', hf⟩ : ∃ y, uF X = y := ⟨_, rfl⟩
    obtain ⟨u', hu⟩ : ∃ y, uU X = y := ⟨_, rfl⟩
    obtain ⟨v', hv⟩ : ∃ y, uV X = y := ⟨_, rfl⟩
    obtain ⟨a', ha⟩ : ∃ y, uA X = y := ⟨_, rfl⟩
    obtain ⟨b', hb⟩ : ∃ y, uB X = y := ⟨_, rfl⟩
    obtain ⟨c', hc⟩ : ∃ y, uC X = y := ⟨_, rfl⟩
    obtain ⟨op', ho⟩ : ∃ y, uOp X = y := ⟨_, rfl⟩
    obtain ⟨im', hi⟩ : ∃ y, uIm X = y := ⟨_, rfl⟩
    simp only [uIns, hf, hu, hv, ha, hb, hc, ho, hi] at UN h
    clear hf hu hv ha hb hc ho hi HX
    have H : Hid _ := h
    clear h
    go_enter Tryz.func98, Tryz.ntmps98
    go_wp2
    refine region_gr0 (by kernel_rfl) (by kernel_rfl) ?_
    repeat (go_big_quiet_step (first
      | (go_at_call 66; exact calls_gr (PK _ (LW _)))
      | (go_at_call 65; exact calls_gr (UN _ (LW _)))
      | (go_at_call 67; exact calls_gr (oper_any _ _ _ _ _ _ _ _ _ (LW _)))))
    go_big_quiet_want
    go_big_quiet_op
    refine ⟨.bool false, fun _ => ?_, ?_⟩
    · clear UN PK LW
      by_cases g1 : f' = f
      case neg => rw [if_neg g1]; exact ⟨rfl, rfl⟩
      rw [if_pos g1]
      by_cases g2 : u' = u
      case neg => rw [if_neg g2]; exact ⟨rfl, rfl⟩
      rw [if_pos g2]
      by_cases g3 : v' = v
      case neg => rw [if_neg g3]; exact ⟨rfl, rfl⟩
      rw [if_pos g3]
      by_cases g4 : a' = a
      case neg => rw [if_neg g4]; exact ⟨rfl, rfl⟩
      rw [if_pos g4]
      by_cases g5 : b' = b
      case neg => rw [if_neg g5]; exact ⟨rfl, rfl⟩
      rw [if_pos g5]
      by_cases g6 : c' = c
      case neg => rw [if_neg g6]; exact ⟨rfl, rfl⟩
      rw [if_pos g6]
      by_cases g7 : op' = op
      case neg => rw [if_neg g7]; exact ⟨rfl, rfl⟩
      rw [if_pos g7]
      by_cases g8 : im' = im
      case neg => rw [if_neg g8]; exact ⟨rfl, rfl⟩
      rw [if_pos g8]
      exact absurd ⟨g1, g2, g3, g4, g5, g6, g7, g8⟩ H.out
    go_big_quiet_on
    repeat (go_big_quiet_step (fail))
    refine wpQuiet_nil ?_
    rintro _ ⟨pq, rfl⟩
    go_wp2
    go_ret
    exact ⟨ret_bool E.out, ((G.refl w).alloc _ _).gr _⟩

set_option maxHeartbeats 1000000 in
theorem encode_any (f : Int) (u v : Bool) (a b c op im : Int) (w : World) (L : Laid w) :
    Calls Tryz.prog 62 #[ins f u v a b c op im] w fun e w' => e = .returned (if goodB f u v a b c op im = true then .tuple #[.int .u32 (packI f u v a b c op im), .int .i64 0] else .tuple #[.int .u32 0, .int .i64 20]) ∧ ∃ p : By, w' = gr w p := by
  obtain ⟨k0, k1, k2, k3, k4, k5, k6, k7⟩ := box_facts f u v a b c op im w
  have LW : ∀ p : By, Laid (gr (w.alloc (.cells #[.int .i64 f, .bool u, .bool v, .int .i64 a, .int .i64 b, .int .i64 c, .int .i64 op, .int .i64 im] 72)) p) := fun p => L.g (((G.refl w).alloc _ _).gr p)
  have L0 : Laid (w.alloc (.cells #[.int .i64 f, .bool u, .bool v, .int .i64 a, .int .i64 b, .int .i64 c, .int .i64 op, .int .i64 im] 72)) := L.g ((G.refl w).alloc _ _)
  have GD := good_any f u v a b c op im _ L0
  cases hg : goodB f u v a b c op im
  · rw [hg] at GD
    clear hg
    go_enter Tryz.func62, Tryz.ntmps62
    go_wp2_with (go_at_call 98; refine GD.mono ?_; rintro e w' ⟨rfl, p, rfl⟩)
    go_ret2
    exact ⟨rfl, ((G.refl w).alloc _ _).gr _⟩
  · rw [hg] at GD
    clear hg
    have PK := pack_any f u v a b c op im
    obtain ⟨X, hX⟩ : ∃ X, packI f u v a b c op im = X := ⟨_, rfl⟩
    rw [hX] at PK ⊢
    clear hX
    go_enter Tryz.func62, Tryz.ntmps62
    go_wp2_with (first | (go_at_call 98; refine GD.mono ?_; rintro e w' ⟨rfl, p, rfl⟩) | (go_at_call 66; refine (calls_gr (PK _ (LW _))).mono ?_; rintro e w' ⟨rfl, p2, rfl⟩))
    go_ret2
    exact ⟨rfl, ((G.refl w).alloc _ _).gr _⟩
end Go.Proofs.YtfdofleohichiaaGreatDoor.Risc
