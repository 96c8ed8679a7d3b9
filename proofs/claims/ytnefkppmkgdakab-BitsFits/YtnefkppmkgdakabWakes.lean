/-
  The document's examples of layer 1, as the statements ask for them: the call answers true.
-/
import Derived.Test.YtnefkppmkgdakabBits
namespace Go.Proofs.Ytnefkppmkgdakab.Bits
open Go.RowKit Go.Proofs.Ytnefkppmkgdakab.Bm

set_option maxHeartbeats 400000 in
theorem wakes_any (w : World) : Calls Try.prog 7 #[] w fun e w' => e = .returned (.bool true) ∧ w' = w := by
  have e1 : (asrI 2147483648 33 == 3221225472) = true := by decide +kernel
  have e2 : (rorI 1 1 == 2147483648) = true := by decide +kernel
  have e3 : (extI 4095 12 == -1) = true := by decide +kernel
  have e4 : (getI 305419896 8 8 == 86) = true := by decide +kernel
  have e5 : fitsB (-128) 8 = true := by decide +kernel
  go_enter Try.func7, Try.ntmps7
  go_wp2_with (first | (go_at_call 11; refine (asr_any _ _ _ (by decide) (by decide)).mono ?_; rintro e w' ⟨rfl, rfl⟩) | (go_at_call 12; refine (ror_any _ _ _ (by decide) (by decide) (by decide) (by decide)).mono ?_; rintro e w' ⟨rfl, rfl⟩) | (go_at_call 5; refine (extend_any _ _ _ (by decide)).mono ?_; rintro e w' ⟨rfl, rfl⟩) | (go_at_call 13; refine (get_any _ _ _ _ (by decide) (by decide) (by decide)).mono ?_; rintro e w' ⟨rfl, rfl⟩) | (go_at_call 4; refine (fits_any _ _ _).mono ?_; rintro e w' ⟨rfl, rfl⟩))
  go_ret
  exact ⟨rfl, rfl⟩
end Go.Proofs.Ytnefkppmkgdakab.Bits
