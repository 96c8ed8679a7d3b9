/-
  The laws' own wakes.
-/
import Derived.Test.YtaekljpijnkjoaaDoorSt6
namespace Go.Proofs.YtaekljpijnkjoaaDoor.St
open Go.RowKit Go.Maps Go.Proofs.YtaekljpijnkjoaaDoor.Tx
set_option linter.unusedVariables false
set_option linter.unusedSimpArgs false
set_option maxRecDepth 100000

def nA : List UInt8 := [65, 46, 77, 111, 100]
def tX : List UInt8 := [120]
def nOne : List UInt8 := [49]
theorem nA_nm : nmB nA = true := by decide
theorem put_first (n t : List UInt8) (hn : nmB n = true) (ht : t.length ≤ 131072) : errP n t [] = 0 ∧ putS n t [] = [(n, t)] := by
  have : errP n t [] = 0 := by simp [errP, hn, Nat.not_lt.2 ht]
  exact ⟨this, by simp [putS, this, without]⟩
theorem get_first (n t : List UInt8) : (getL n [(n, t)]).1 = t ∧ hasL n [(n, t)] = true := by simp [hasL, getL]
theorem put_one (l : List Pr) : errP nOne [] l = 70 := by rw [errP, if_pos (by decide)]
set_option maxHeartbeats 1000000 in
theorem wakes_any (w : World) : Calls Tryd.prog 19 #[] w fun e w' => e = .returned (.bool true) ∧ w.grownBy w' none := by
  have b1 : (⟨#[65, 46, 77, 111, 100]⟩ : ByteArray) = bs nA := rfl
  have b2 : (⟨#[120]⟩ : ByteArray) = bs tX := rfl
  have b3 : (⟨#[49]⟩ : ByteArray) = bs nOne := rfl
  have b4 : (⟨#[]⟩ : ByteArray) = bs [] := rfl
  go_enter Tryd.func19, Tryd.ntmps19
  go_wp2_with (first
    | (go_at_call 7; refine (new_any _).mono ?_; rintro e w1 ⟨rfl, hs, hg⟩; have H1 := hide hs; have G1 := hide hg; clear hs hg)
    | (go_at_call 8; refine (put_at H1.out nA tX (by decide) (by decide) (by decide)).mono ?_; rw [(put_first nA tX nA_nm (by decide)).1, (put_first nA tX nA_nm (by decide)).2]; rintro e w2 ⟨rfl, hg, hs⟩; have H2 := hide hs; have G2 := hide (grown_own G1.out (Nat.le_refl _) hg); clear hs hg H1 G1)
    | (go_at_call 10; refine (get_at H2.out nA (by decide)).mono ?_; rw [(get_first nA tX).1, (get_first nA tX).2]; rintro e w3 ⟨rfl, hg⟩; have H3 := hide (H2.out.kept hg (by simp) (by simp)); have G3 := hide (grown_trans G2.out hg); clear hg H2 G2)
    | (go_at_call 8; refine (put_at H3.out nOne [] (by decide) (by decide) (by decide)).mono ?_; rw [put_one]; rintro e w4 ⟨rfl, hg, hs⟩; have G4 := hide (grown_own G3.out (Nat.le_refl _) hg); clear hs hg H3 G3))
  go_ret
  exact ⟨rfl, G4.out⟩
end Go.Proofs.YtaekljpijnkjoaaDoor.St
