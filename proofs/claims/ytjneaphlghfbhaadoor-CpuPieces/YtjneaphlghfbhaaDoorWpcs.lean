/-
  The walk of CpuPieces.
-/
import Derived.Test.YtjneaphlghfbhaaDoorCgrow
import Derived.Test.YtjneaphlghfbhaaDoorMapp
import Derived.Test.YtjneaphlghfbhaaDoorCargs
namespace Go.Proofs.YtjneaphlghfbhaaDoor.Cpu
open Go.RowKit Go.Proofs.YtjneaphlghfbhaaDoor.Bits Go.Proofs.YtjneaphlghfbhaaDoor.Gw Go.Proofs.YtjneaphlghfbhaaDoor.Risc Go.Proofs.YtjneaphlghfbhaaDoor.Alu Go.Proofs.YtjneaphlghfbhaaDoor.Mem
set_option linter.unusedVariables false

set_option maxHeartbeats 4000000 in
set_option maxRecDepth 100000 in
theorem pieces_bad (w : World) (L : Laid w) (o0 : Option Addr) (n0 c0 : Nat) (inp : ByteArray) (x y : Int) (hn : n0 ≤ 9223372036854775807) (hi : inp.size ≤ 9223372036854775807) (h : lgB n0 = true ∨ 4000 < inp.size ∨ x < 0 ∨ y < 0 ∨ 20000 < x ∨ 20000 < y) :
    Calls Tryd.prog 3 #[.slice o0 n0 c0, .string inp, .agg #[.int .i64 x, .int .i64 y]] w fun e w' => e = .returned (.bool true) ∧ w.grownBy w' none := by
  have HL := hd L
  clear L
  cases hlg : lgB n0
  · have HLG := hd hlg
    rw [hlg] at h
    clear hlg
    by_cases h1 : 4000 < inp.size
    · have i1 : (4000 : Int) < (inp.size : Int) := by omega
      clear h h1
      (go_enter Tryd.func3, Tryd.ntmps3; go_wp2; go_quiet (fail); go_wp2_with (first | (go_at_call 7; refine (large_any _ _ _ _ (by omega)).mono ?_; rw [HLG.out]; rintro e w' ⟨rfl, rfl⟩) | (go_at_call 8; refine (wakes_any _ (laid_chg HL.out (F := []) (Chg.still (grown_drewN (World.grownBy_alloc _ _ none) _)) (by simp))).mono ?_; rintro e w5 ⟨rfl, hg⟩; have HW := hd hg; clear hg)); go_ret; exact ⟨rfl, grown_trans (grown_drewN (World.grownBy_alloc _ _ none) _) HW.out⟩)
    have i1 : ¬ (4000 : Int) < (inp.size : Int) := by omega
    by_cases h2 : x < 0
    · clear h h1
      (go_enter Tryd.func3, Tryd.ntmps3; go_wp2; go_quiet (fail); go_wp2_with (first | (go_at_call 7; refine (large_any _ _ _ _ (by omega)).mono ?_; rw [HLG.out]; rintro e w' ⟨rfl, rfl⟩) | (go_at_call 8; refine (wakes_any _ (laid_chg HL.out (F := []) (Chg.still (grown_drewN (World.grownBy_alloc _ _ none) _)) (by simp))).mono ?_; rintro e w5 ⟨rfl, hg⟩; have HW := hd hg; clear hg)); go_ret; exact ⟨rfl, grown_trans (grown_drewN (World.grownBy_alloc _ _ none) _) HW.out⟩)
    by_cases h3 : y < 0
    · clear h h1
      (go_enter Tryd.func3, Tryd.ntmps3; go_wp2; go_quiet (fail); go_wp2_with (first | (go_at_call 7; refine (large_any _ _ _ _ (by omega)).mono ?_; rw [HLG.out]; rintro e w' ⟨rfl, rfl⟩) | (go_at_call 8; refine (wakes_any _ (laid_chg HL.out (F := []) (Chg.still (grown_drewN (World.grownBy_alloc _ _ none) _)) (by simp))).mono ?_; rintro e w5 ⟨rfl, hg⟩; have HW := hd hg; clear hg)); go_ret; exact ⟨rfl, grown_trans (grown_drewN (World.grownBy_alloc _ _ none) _) HW.out⟩)
    by_cases h4 : 20000 < x
    · clear h h1
      (go_enter Tryd.func3, Tryd.ntmps3; go_wp2; go_quiet (fail); go_wp2_with (first | (go_at_call 7; refine (large_any _ _ _ _ (by omega)).mono ?_; rw [HLG.out]; rintro e w' ⟨rfl, rfl⟩) | (go_at_call 8; refine (wakes_any _ (laid_chg HL.out (F := []) (Chg.still (grown_drewN (World.grownBy_alloc _ _ none) _)) (by simp))).mono ?_; rintro e w5 ⟨rfl, hg⟩; have HW := hd hg; clear hg)); go_ret; exact ⟨rfl, grown_trans (grown_drewN (World.grownBy_alloc _ _ none) _) HW.out⟩)
    by_cases h5 : 20000 < y
    · clear h h1
      (go_enter Tryd.func3, Tryd.ntmps3; go_wp2; go_quiet (fail); go_wp2_with (first | (go_at_call 7; refine (large_any _ _ _ _ (by omega)).mono ?_; rw [HLG.out]; rintro e w' ⟨rfl, rfl⟩) | (go_at_call 8; refine (wakes_any _ (laid_chg HL.out (F := []) (Chg.still (grown_drewN (World.grownBy_alloc _ _ none) _)) (by simp))).mono ?_; rintro e w5 ⟨rfl, hg⟩; have HW := hd hg; clear hg)); go_ret; exact ⟨rfl, grown_trans (grown_drewN (World.grownBy_alloc _ _ none) _) HW.out⟩)
    exfalso
    rcases h with h | h | h | h | h | h
    · cases h
    · exact h1 h
    · exact h2 h
    · exact h3 h
    · exact h4 h
    · exact h5 h
  · have HLG := hd hlg
    clear hlg h
    (go_enter Tryd.func3, Tryd.ntmps3; go_wp2; go_quiet (fail); go_wp2_with (first | (go_at_call 7; refine (large_any _ _ _ _ (by omega)).mono ?_; rw [HLG.out]; rintro e w' ⟨rfl, rfl⟩) | (go_at_call 8; refine (wakes_any _ (laid_chg HL.out (F := []) (Chg.still (grown_drewN (World.grownBy_alloc _ _ none) _)) (by simp))).mono ?_; rintro e w5 ⟨rfl, hg⟩; have HW := hd hg; clear hg)); go_ret; exact ⟨rfl, grown_trans (grown_drewN (World.grownBy_alloc _ _ none) _) HW.out⟩)
end Go.Proofs.YtjneaphlghfbhaaDoor.Cpu
