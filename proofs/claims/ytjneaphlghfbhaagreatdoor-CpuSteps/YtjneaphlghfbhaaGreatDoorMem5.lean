/-
  What the document's own memory answers: PutByte.
-/
import Derived.Test.YtjneaphlghfbhaaGreatDoorMem4
namespace Go.Proofs.YtjneaphlghfbhaaGreatDoor.Mem
open Go.RowKit Go.Proofs.YtjneaphlghfbhaaGreatDoor.Bits Go.Proofs.YtjneaphlghfbhaaGreatDoor.Bm

theorem sub_add_mod (X H T U R : Int) (h0 : 0 ≤ H) (t0 : 0 ≤ T) (u0 : 0 ≤ U) (r0 : 0 ≤ R) (hX : X = H + T + R) (x1 : X < 4294967296) (h1 : H + U + R < 4294967296) :
    ((X - T % 4294967296) % 4294967296 + U % 4294967296) % 4294967296 = H + U + R := by
  have e1 : T % 4294967296 = T := Int.emod_eq_of_lt t0 (by omega)
  have e2 : U % 4294967296 = U := Int.emod_eq_of_lt u0 (by omega)
  have e3 : (X - T) % 4294967296 = X - T := Int.emod_eq_of_lt (by omega) (by omega)
  rw [e1, e2, e3, Int.emod_eq_of_lt (by omega) (by omega)]
  omega
theorem flat (X T U : Int) : (X - T + U) % 4294967296 = ((X - T % 4294967296) % 4294967296 + U % 4294967296) % 4294967296 := by omega
theorem put8_eq (X v p : Int) (X0 : 0 ≤ X) (X1 : X < 4294967296) (v0 : 0 ≤ v) :
    ((X - X / sc p % 256 * sc p % 4294967296) % 4294967296 + v % 256 * sc p % 4294967296) % 4294967296 = putI X (p % 4 * 8) 8 v := by
  obtain ⟨x, rfl⟩ := Int.eq_ofNat_of_zero_le X0
  obtain ⟨y, rfl⟩ := Int.eq_ofNat_of_zero_le v0
  unfold putI sc
  rw [if_pos (by omega)]
  have hl : (p % 4 * 8).toNat + 8 ≤ 32 := by omega
  simp only [Int.toNat_natCast]
  rw [show (8 : Int).toNat = 8 from rfl]
  generalize (p % 4 * 8).toNat = l at *
  have h1 := put_lt x l 8 y hl (by omega)
  have h2 := x_split x l 8
  have e : putN x l 8 y = x / 2 ^ (l + 8) * 2 ^ (l + 8) + y % 2 ^ 8 * 2 ^ l + x % 2 ^ l := rfl
  have e2 : (x : Int) / 2 ^ l % 256 * 2 ^ l = ((x / 2 ^ l % 2 ^ 8 * 2 ^ l : Nat) : Int) := by simp
  have e3 : (y : Int) % 256 * 2 ^ l = ((y % 2 ^ 8 * 2 ^ l : Nat) : Int) := by simp
  rw [e2, e3, e]
  rw [e] at h1
  generalize x / 2 ^ (l + 8) * 2 ^ (l + 8) = H at *
  generalize x / 2 ^ l % 2 ^ 8 * 2 ^ l = T at *
  generalize y % 2 ^ 8 * 2 ^ l = U at *
  generalize x % 2 ^ l = R at *
  rw [sub_add_mod (x : Int) H T U R (by omega) (by omega) (by omega) (by omega) (by omega) (by omega) (by omega)]
  omega
theorem mm_eq {T : TypeId} {w : World} {a b c k : Nat} {xs : List Int} {x y : Int} (h : Mm T (w.setCell ⟨b, k, none⟩ (wd x)) a b c (xs.set k x)) (e : y = x) : Mm T (w.setCell ⟨b, k, none⟩ (wd y)).drew a b c (xs.set k x) := by
  rw [e]; exact h.drew
set_option maxRecDepth 100000 in
theorem rputb_ob {w : World} {v : Value} {b : Nat} {xs : List Int} (h : Ob 81 w v b xs) (p x : Int) (p0 : 0 ≤ p) (p1 : p < 4294967296) (x0 : 0 ≤ x) (x1 : x < 4294967296) :
    Calls Tryz.prog 99 #[v, wd p, wd x] w fun e w' => e = .returned (.bool (thB xs p)) ∧ w.grownBy w' (some b) ∧ Ob 81 w' v b (pbL xs p x) := by
  unfold pbL
  cases h0 : thB xs p
  · have H : Hid (Ob 81 w v b xs) := h
    go_enter Tryz.func99, Tryz.ntmps99
    go_wp2_with (go_at_call 109; refine (rthere_ob H.out _ (by omega) (by omega)).mono ?_; rw [h0]; rintro e w' ⟨rfl, rfl⟩)
    go_ret
    exact ⟨rfl, World.grownBy.refl _ _, H.out⟩
  · obtain ⟨k, hk⟩ := nat_of p p0
    have hl : k < xs.length := by simp [thB] at h0; omega
    rcases h with ⟨rfl, rfl⟩ | ⟨a, c, rfl, h⟩
    · simp at hl
    · have hm := h.row.max
      have hle := h.row.le
      unfold maxLen at hm
      have hc := h.cell
      have hd := h.row.cell hl
      have hf := h.row.free k
      have H : Hid (Ob 81 w (.pointer (some ⟨a, 0, none⟩)) b xs) := .inr ⟨a, c, rfl, h⟩
      have hr := rng_at h.row.rng k
      have hu := put8_range xs h.row.rng k (p % 4 * 8) x
      have HS : Hid (∀ d, Mm 81 ((w.drewN d).setCell ⟨b, k, none⟩ (wd (putI (at0 xs k) (p % 4 * 8) 8 x))) a b c (xs.set k (putI (at0 xs k) (p % 4 * 8) 8 x))) := fun d => (show Mm 81 (w.drewN d) a b c xs from ⟨h.head, ⟨h.row.has, h.row.le, h.row.max, h.row.rng⟩⟩).set (by decide) hu.1 hu.2
      have E8 : Hid (((at0 xs k - at0 xs k / sc p % 256 * sc p % 4294967296) % 4294967296 + x % 256 * sc p % 4294967296) % 4294967296 = putI (at0 xs k) (p % 4 * 8) 8 x) := put8_eq _ _ _ hr.1 hr.2 x0
      have EB : Hid (byI xs p = at0 xs k / sc p % 256) := by show _ = _; unfold byI; rw [if_pos h0, hk]; rfl
      obtain ⟨X, hX⟩ : ∃ X, at0 xs k = X := ⟨_, rfl⟩
      rw [hX] at hd hr E8 EB
      obtain ⟨S, hS⟩ : ∃ S, sc p = S := ⟨_, rfl⟩
      have HSC : Hid (∀ w, Calls Tryz.prog 110 #[wd p] w fun e w' => e = .returned (wd S) ∧ w' = w) := fun w => hS ▸ scale_any p w p0 p1
      rw [hS] at E8 EB
      obtain ⟨O, hO⟩ : ∃ O, X / S % 256 = O := ⟨_, rfl⟩
      have o0 : 0 ≤ O ∧ O < 256 := by omega
      rw [hO] at E8 EB
      clear hO
      have EX : Hid (at0 xs k = X) := hX
      obtain ⟨r0, r1⟩ := hr
      have hq : IntKind.u32.wrap (p.tdiv 4) = (k : Int) := by rw [Int.tdiv_eq_ediv_of_nonneg p0, IntKind.wrap_u32]; omega
      have hql : (k : Int) < (xs.length : Int) := by omega
      have hx : IntKind.u32.wrap (x.tmod 256) = x % 256 := by rw [Int.tmod_eq_emod_of_nonneg x0, IntKind.wrap_u32]; omega
      clear hX hS h hu
      go_enter Tryz.func99, Tryz.ntmps99
      go_wp2_with (first | (go_at_call 109; refine (rthere_ob H.out _ (by omega) (by omega)).mono ?_; rw [h0]; rintro e w' ⟨rfl, rfl⟩) | (go_at_call 101; refine (rbyte_ob H.out _ (by omega) (by omega)).mono ?_; rw [EB.out]; rintro e w' ⟨rfl, d, rfl⟩))
      refine region_tail 26 (by kernel_rfl) (by kernel_rfl) ?_
      simp only [List.take_succ_cons, List.take_zero, List.drop_succ_cons, List.drop_zero]
      repeat (first | still_step | still_call (HSC.out _))
      refine wpStill_nil ?_
      go_wp2
      go_ret
      refine ⟨rfl, grown_drew (grown_trans (grown_drewN (World.grownBy.refl _ _) d) (grown_set _ _ _ _)), .inr ⟨a, c, rfl, ?_⟩⟩
      exact mm_eq (HS.out d) (by rw [EX.out]; exact (flat _ _ _).trans E8.out)
end Go.Proofs.YtjneaphlghfbhaaGreatDoor.Mem
