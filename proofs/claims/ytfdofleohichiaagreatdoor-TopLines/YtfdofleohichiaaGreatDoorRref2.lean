/-
  The document's own layer 2 (package spinetref02): an instruction's word.
-/
import Derived.Test.YtfdofleohichiaaGreatDoorRref1
namespace Go.Proofs.YtfdofleohichiaaGreatDoor.Risc
open Go.RowKit Go.Proofs.YtfdofleohichiaaGreatDoor.Bits Go.Proofs.YtfdofleohichiaaGreatDoor.Gw

theorem rputU (x lo n v : Int) (w : World) (hx : U32 x) (hv : U32 v) (l1 : lo ≤ 9223372036854775807) :
    Calls Tryz.prog 50 #[.int .u32 x, .int .i64 lo, .int .i64 n, .int .u32 v] w fun e w' => e = .returned (.int .u32 (putI x lo n v)) ∧ ∃ d, w' = w.drewN d :=
  rput_any x lo n v w hx.1 hx.2 hv.1 hv.2 l1
theorem rgoodG (f : Int) (u v : Bool) (a b c op im : Int) (w : World) :
    Calls Tryz.prog 49 #[ins f u v a b c op im] w fun e w' => e = .returned (.bool (goodR f u v a b c op im)) ∧ ∃ p : By, w' = gr w p :=
  (rgood_any f u v a b c op im w).mono fun _ _ ⟨he, hw⟩ => ⟨he, _, hw.trans (gr_alloc _ _ _)⟩
set_option maxHeartbeats 2000000 in
theorem rencode_any (f : Int) (u v : Bool) (a b c op im : Int) (w : World) :
    Calls Tryz.prog 25 #[ins f u v a b c op im] w fun e w' => e = .returned (if goodR f u v a b c op im = true then .tuple #[.int .u32 (packI f u v a b c op im), .int .i64 0] else .tuple #[.int .u32 0, .int .i64 20]) ∧ ∃ p : By, w' = gr w p := by
  obtain ⟨k0, k1, k2, k3, k4, k5, k6, k7⟩ := box_facts f u v a b c op im w
  have GD := rgoodG f u v a b c op im (w.alloc (.cells #[.int .i64 f, .bool u, .bool v, .int .i64 a, .int .i64 b, .int .i64 c, .int .i64 op, .int .i64 im] 72))
  cases hg : goodR f u v a b c op im
  · rw [hg] at GD
    clear hg
    (go_enter Tryz.func25, Tryz.ntmps25; go_wp2_with (first | (go_at_call 49; refine GD.mono ?_; rintro e w' ⟨rfl, p, rfl⟩) | (go_at_call 51; refine (calls_same (bit_any _ _)).mono ?_; rintro e w' ⟨rfl, p, rfl⟩) | (go_at_call 52; refine (calls_same (rword_any _ _)).mono ?_; rintro e w' ⟨rfl, p, rfl⟩) | (go_at_call 50; refine (calls_drew (rputU _ _ _ _ _ (by repeat' (first | exact U32.zero | exact U32.mod _ | exact U32.bit _ | apply U32.put)) (by repeat' (first | exact U32.zero | exact U32.mod _ | exact U32.bit _ | apply U32.put)) (by decide))).mono ?_; rintro e w' ⟨rfl, p, rfl⟩)); go_ret2)
    exact ⟨rfl, ((G.refl w).alloc _ _).gr _⟩
  · rw [hg] at GD
    have ho := good_form hg
    clear hg
    by_cases h0 : f = 0
    · have e0 : (f == 0) = true := by simp [h0]
      have n3 : (f != 3) = true := by simp [h0]
      have E : Hid (packI f u v a b c op im = putI (putI (putI (putI (putI (putI (putI 0 30 2 (f % 4294967296)) 29 1 (bI u)) 28 1 (bI v)) 24 4 (a % 4294967296)) 20 4 (b % 4294967296)) 16 4 (op % 4294967296)) 0 4 (c % 4294967296)) := by show packI f u v a b c op im = _; rw [packI, if_pos h0, headI, bI_mod, bI_mod]
      clear ho h0
      (go_enter Tryz.func25, Tryz.ntmps25; go_wp2_with (first | (go_at_call 49; refine GD.mono ?_; rintro e w' ⟨rfl, p, rfl⟩) | (go_at_call 51; refine (calls_same (bit_any _ _)).mono ?_; rintro e w' ⟨rfl, p, rfl⟩) | (go_at_call 52; refine (calls_same (rword_any _ _)).mono ?_; rintro e w' ⟨rfl, p, rfl⟩) | (go_at_call 50; refine (calls_drew (rputU _ _ _ _ _ (by repeat' (first | exact U32.zero | exact U32.mod _ | exact U32.bit _ | apply U32.put)) (by repeat' (first | exact U32.zero | exact U32.mod _ | exact U32.bit _ | apply U32.put)) (by decide))).mono ?_; rintro e w' ⟨rfl, p, rfl⟩)); go_ret2)
      rw [E.out]
      exact ⟨by simp, ((G.refl w).alloc _ _).gr _⟩
    by_cases h1 : f = 1
    · have e0 : (f == 0) = false := by simp [h0]
      have e1 : (f == 1) = true := by simp [h1]
      have n3 : (f != 3) = true := by simp [h1]
      have E : Hid (packI f u v a b c op im = putI (putI (putI (putI (putI (putI (putI 0 30 2 (f % 4294967296)) 29 1 (bI u)) 28 1 (bI v)) 24 4 (a % 4294967296)) 20 4 (b % 4294967296)) 16 4 (op % 4294967296)) 0 16 (im % 4294967296)) := by show packI f u v a b c op im = _; rw [packI, if_neg h0, if_pos h1, headI, bI_mod, bI_mod]
      clear ho h0 h1
      (go_enter Tryz.func25, Tryz.ntmps25; go_wp2_with (first | (go_at_call 49; refine GD.mono ?_; rintro e w' ⟨rfl, p, rfl⟩) | (go_at_call 51; refine (calls_same (bit_any _ _)).mono ?_; rintro e w' ⟨rfl, p, rfl⟩) | (go_at_call 52; refine (calls_same (rword_any _ _)).mono ?_; rintro e w' ⟨rfl, p, rfl⟩) | (go_at_call 50; refine (calls_drew (rputU _ _ _ _ _ (by repeat' (first | exact U32.zero | exact U32.mod _ | exact U32.bit _ | apply U32.put)) (by repeat' (first | exact U32.zero | exact U32.mod _ | exact U32.bit _ | apply U32.put)) (by decide))).mono ?_; rintro e w' ⟨rfl, p, rfl⟩)); go_ret2)
      rw [E.out]
      exact ⟨by simp, ((G.refl w).alloc _ _).gr _⟩
    by_cases h2 : f = 2
    · have e0 : (f == 0) = false := by simp [h0]
      have e1 : (f == 1) = false := by simp [h1]
      have e2 : (f == 2) = true := by simp [h2]
      have n3 : (f != 3) = true := by simp [h2]
      have E : Hid (packI f u v a b c op im = putI (putI (putI (putI (putI (putI 0 30 2 (f % 4294967296)) 29 1 (bI u)) 28 1 (bI v)) 24 4 (a % 4294967296)) 20 4 (b % 4294967296)) 0 20 (im % 4294967296)) := by show packI f u v a b c op im = _; rw [packI, if_neg h0, if_neg h1, if_pos h2, headI, bI_mod, bI_mod]
      clear ho h0 h1 h2
      (go_enter Tryz.func25, Tryz.ntmps25; go_wp2_with (first | (go_at_call 49; refine GD.mono ?_; rintro e w' ⟨rfl, p, rfl⟩) | (go_at_call 51; refine (calls_same (bit_any _ _)).mono ?_; rintro e w' ⟨rfl, p, rfl⟩) | (go_at_call 52; refine (calls_same (rword_any _ _)).mono ?_; rintro e w' ⟨rfl, p, rfl⟩) | (go_at_call 50; refine (calls_drew (rputU _ _ _ _ _ (by repeat' (first | exact U32.zero | exact U32.mod _ | exact U32.bit _ | apply U32.put)) (by repeat' (first | exact U32.zero | exact U32.mod _ | exact U32.bit _ | apply U32.put)) (by decide))).mono ?_; rintro e w' ⟨rfl, p, rfl⟩)); go_ret2)
      rw [E.out]
      exact ⟨by simp, ((G.refl w).alloc _ _).gr _⟩
    have h3 : f = 3 := by omega
    have e0 : (f == 0) = false := by simp [h0]
    have e1 : (f == 1) = false := by simp [h1]
    have e2 : (f == 2) = false := by simp [h2]
    have n3 : (f != 3) = false := by simp [h3]
    have E : Hid (packI f u v a b c op im = if u = true then putI (putI (putI (putI (putI 0 30 2 (f % 4294967296)) 29 1 (bI u)) 28 1 (bI v)) 24 4 (a % 4294967296)) 0 24 (im % 4294967296) else putI (putI (putI (putI (putI 0 30 2 (f % 4294967296)) 29 1 (bI u)) 28 1 (bI v)) 24 4 (a % 4294967296)) 0 4 (c % 4294967296)) := by show packI f u v a b c op im = _; rw [packI, if_neg h0, if_neg h1, if_neg h2, headI, bI_mod, bI_mod]
    clear ho h0 h1 h2 h3
    cases u
    · (go_enter Tryz.func25, Tryz.ntmps25; go_wp2_with (first | (go_at_call 49; refine GD.mono ?_; rintro e w' ⟨rfl, p, rfl⟩) | (go_at_call 51; refine (calls_same (bit_any _ _)).mono ?_; rintro e w' ⟨rfl, p, rfl⟩) | (go_at_call 52; refine (calls_same (rword_any _ _)).mono ?_; rintro e w' ⟨rfl, p, rfl⟩) | (go_at_call 50; refine (calls_drew (rputU _ _ _ _ _ (by repeat' (first | exact U32.zero | exact U32.mod _ | exact U32.bit _ | apply U32.put)) (by repeat' (first | exact U32.zero | exact U32.mod _ | exact U32.bit _ | apply U32.put)) (by decide))).mono ?_; rintro e w' ⟨rfl, p, rfl⟩)); go_ret2)
      rw [E.out]
      exact ⟨by simp, ((G.refl w).alloc _ _).gr _⟩
    · (go_enter Tryz.func25, Tryz.ntmps25; go_wp2_with (first | (go_at_call 49; refine GD.mono ?_; rintro e w' ⟨rfl, p, rfl⟩) | (go_at_call 51; refine (calls_same (bit_any _ _)).mono ?_; rintro e w' ⟨rfl, p, rfl⟩) | (go_at_call 52; refine (calls_same (rword_any _ _)).mono ?_; rintro e w' ⟨rfl, p, rfl⟩) | (go_at_call 50; refine (calls_drew (rputU _ _ _ _ _ (by repeat' (first | exact U32.zero | exact U32.mod _ | exact U32.bit _ | apply U32.put)) (by repeat' (first | exact U32.zero | exact U32.mod _ | exact U32.bit _ | apply U32.put)) (by decide))).mono ?_; rintro e w' ⟨rfl, p, rfl⟩)); go_ret2)
      rw [E.out]
      exact ⟨by simp, ((G.refl w).alloc _ _).gr _⟩
end Go.Proofs.YtfdofleohichiaaGreatDoor.Risc
