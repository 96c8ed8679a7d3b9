/-
  What the document's own Word does, as one.
-/
import Derived.Test.YtjeogojgabfbiaaGreatDoorAsm14
namespace Go.Proofs.YtjeogojgabfbiaaGreatDoor.Asm
open Go.RowKit Go.Proofs.YtjeogojgabfbiaaGreatDoor.Bits Go.Proofs.YtjeogojgabfbiaaGreatDoor.Gw Go.Proofs.YtjeogojgabfbiaaGreatDoor.Risc Go.Proofs.YtjeogojgabfbiaaGreatDoor.Tx
set_option linter.unusedVariables false
set_option linter.unusedSimpArgs false
set_option maxRecDepth 100000

def wN (s : List UInt8) : List UInt8 := cut1 s [32]
def wR (s : List UInt8) : List UInt8 := cut2 s [32]
def wA (s : List UInt8) : List UInt8 := cut1 (wR s) [44, 32]
def wM (s : List UInt8) : List UInt8 := cut2 (wR s) [44, 32]
def wB (s : List UInt8) : List UInt8 := cut1 (wM s) [44, 32]
def wL (s : List UInt8) : List UInt8 := cut2 (wM s) [44, 32]
def wV (s : List UInt8) : Value :=
  if 60 < s.length then noV
  else if (cutB s [32] && pK (wN s)) = false then noV
  else if pF (wN s) = 3 then (if (rgK (wR s) || numB (wR s)) = true then tlV s 3 (!rgK (wR s)) (pV (wN s)) (pA (wN s)) 0 (rgV (wR s)) (pO (wN s)) (if rgK (wR s) = true then 0 else numV (wR s)) else noV)
  else if rsB (pF (wN s)) (rgK (wA s)) (rgK (wB s)) (rgK (wL s)) (numB (wL s)) = true then tlV s (rsF (pF (wN s)) (rgK (wL s))) (pU (wN s)) (pV (wN s)) (rgV (wA s)) (rgV (wB s)) (if rgK (wL s) = true then rgV (wL s) else 0) (pO (wN s)) (if rgK (wL s) = true then 0 else numV (wL s)) else noV
set_option maxHeartbeats 1000000 in
theorem word_long (s : List UInt8) (h : 60 < s.length) (h1 : s.length ≤ 1000000000000) (w : World) :
    Calls Tryz.prog 11 #[.string (bs s)] w fun e w' => e = .returned noV ∧ w.grownBy w' none := by
  have z0 : (bs s).size = s.length := rfl
  have z1 : (60 : Int) < (s.length : Int) := by omega
  go_enter Tryz.func11, Tryz.ntmps11
  go_wp2
  go_ret2
  exact ⟨rfl, World.grownBy.refl _ _⟩
set_option maxHeartbeats 1000000 in
theorem word_no (s n r : List UInt8) (f : Int) (u v : Bool) (a op : Int) (b k : Bool) (hb : (b && k) = false) (hs : s.length ≤ 60)
    (hcut : ∀ w : World, Calls Tryz.prog 26 #[.string (bs s), .string (bs [32])] w fun e w' => e = .returned (.tuple #[.string (bs n), .string (bs r), .bool b]) ∧ w.grownBy w' none)
    (hpart : ∀ w : World, Calls Tryz.prog 27 #[.string (bs n)] w fun e w' => e = .returned (.tuple #[ins f u v a 0 0 op 0, .bool k]) ∧ w.grownBy w' none) (w : World) :
    Calls Tryz.prog 11 #[.string (bs s)] w fun e w' => e = .returned noV ∧ w.grownBy w' none := by
  have HC := hide hcut
  have HP := hide hpart
  have z0 : (bs s).size = s.length := rfl
  have z1 : ¬ (60 : Int) < (s.length : Int) := by omega
  have d1 : (⟨#[32]⟩ : ByteArray) = bs [32] := rfl
  clear hcut hpart
  cases b
  · go_enter Tryz.func11, Tryz.ntmps11
    go_wp2_with (first
      | (go_at_call 26; refine (HC.out _).mono ?_; rintro e w1 ⟨rfl, hg⟩; have H1 := hide hg; clear hg)
      | (go_at_call 27; refine (HP.out _).mono ?_; rintro e w2 ⟨rfl, hg⟩; have H2 := hide (grown_trans H1.out hg); clear hg))
    go_ret2
    exact ⟨rfl, grown_trans H2.out (World.grownBy_alloc _ _ none)⟩
  · obtain rfl : k = false := by simpa using hb
    go_enter Tryz.func11, Tryz.ntmps11
    go_wp2_with (first
      | (go_at_call 26; refine (HC.out _).mono ?_; rintro e w1 ⟨rfl, hg⟩; have H1 := hide hg; clear hg)
      | (go_at_call 27; refine (HP.out _).mono ?_; rintro e w2 ⟨rfl, hg⟩; have H2 := hide (grown_trans H1.out hg); clear hg))
    go_ret2
    exact ⟨rfl, grown_trans H2.out (World.grownBy_alloc _ _ none)⟩
theorem word_any (s : List UInt8) (hs : s.length ≤ 1000000000000) (w : World) :
    Calls Tryz.prog 11 #[.string (bs s)] w fun e w' => e = .returned (wV s) ∧ w.grownBy w' none := by
  unfold wV
  by_cases h : 60 < s.length
  · rw [if_pos h]
    exact word_long s h hs w
  rw [if_neg h]
  have l1 := cut_len s [32]
  have l2 := cut_len (wR s) [44, 32]
  have l3 := cut_len (wM s) [44, 32]
  have q1 : (wR s).length ≤ s.length := l1.2
  have q2 : (wM s).length ≤ (wR s).length := l2.2
  have q3 : (wL s).length ≤ (wM s).length := l3.2
  have q4 : (wA s).length ≤ (wR s).length := l2.1
  have q5 : (wB s).length ≤ (wM s).length := l3.1
  have q6 : (wN s).length ≤ s.length := l1.1
  have hcut := cut_g s [32] (by omega) (by decide) (by decide)
  have hpart := parts_any (wN s) (by omega)
  by_cases hb : (cutB s [32] && pK (wN s)) = false
  · rw [if_pos hb]
    exact word_no s (wN s) (wR s) _ _ _ _ _ _ _ hb (by omega) hcut hpart w
  rw [if_neg hb]
  have hb' : cutB s [32] = true ∧ pK (wN s) = true := by simpa using hb
  have h0 : s ≠ [] := by rintro rfl; exact absurd hb'.1 (by decide)
  rw [hb'.1] at hcut
  rw [hb'.2] at hpart
  by_cases hf : pF (wN s) = 3
  · rw [if_pos hf]
    rw [hf] at hpart
    exact word_jump s (wN s) (wR s) _ _ _ _ (by omega) (by omega) (by omega) hcut hpart h0 w
  · rw [if_neg hf]
    have hf' : pF (wN s) = 0 ∨ pF (wN s) = 2 := by rcases pF_is (wN s) with e | e | e <;> omega
    have hA : pA (wN s) = 0 := by
      unfold pA
      split
      · rfl
      · next h1 =>
        split
        · next h2 => exact absurd (by rw [pF, if_neg h1, if_pos h2]) hf
        · rfl
    rw [hA] at hpart
    exact word_rest s (wN s) (wR s) (wA s) (wM s) (wB s) (wL s) _ hf' _ _ 0 _ _ _ _ _ _ _ _ _ _ _ (by omega) hcut hpart (cut_g (wR s) [44, 32] (by omega) (by decide) (by decide)) (cut_g (wM s) [44, 32] (by omega) (by decide) (by decide))
      (register_any (wA s) (by omega)) (register_any (wB s) (by omega)) (register_any (wL s) (by omega)) (number_any (wL s) (by omega)) h0 w
end Go.Proofs.YtjeogojgabfbiaaGreatDoor.Asm
