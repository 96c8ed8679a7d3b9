/-
  What the document's own memory answers: Size, Load, Store, Byte, PutByte.
-/
import Derived.Test.YtjneaphlghfbhaaGreatDoorMem3
namespace Go.Proofs.YtjneaphlghfbhaaGreatDoor.Mem
open Go.RowKit Go.Proofs.YtjneaphlghfbhaaGreatDoor.Bits

theorem rsize_nil (w : World) : Calls Tryz.prog 25 #[.pointer none] w fun e w' => e = .returned (.int .i64 0) ∧ w' = w := by
  go_enter Tryz.func25, Tryz.ntmps25
  go_wp2
  go_ret
  exact ⟨rfl, rfl⟩
theorem rsize_at (w : World) (a b n c : Nat) (hc : w.cell? ⟨a, 0, none⟩ = some (.slice (some ⟨b, 0, none⟩) n c)) : Calls Tryz.prog 25 #[.pointer (some ⟨a, 0, none⟩)] w fun e w' => e = .returned (.int .i64 n) ∧ w' = w := by
  go_enter Tryz.func25, Tryz.ntmps25
  go_wp2
  go_ret
  exact ⟨rfl, rfl⟩
theorem rsize_ob {w : World} {v : Value} {b : Nat} {xs : List Int} (h : Ob 81 w v b xs) : Calls Tryz.prog 25 #[v] w fun e w' => e = .returned (.int .i64 (xs.length : Nat)) ∧ w' = w := by
  rcases h with ⟨rfl, rfl⟩ | ⟨a, c, rfl, h⟩
  · exact rsize_nil w
  · exact rsize_at w a b xs.length c h.cell
theorem rthere_ob {w : World} {v : Value} {b : Nat} {xs : List Int} (h : Ob 81 w v b xs) (p : Int) (p0 : 0 ≤ p) (p1 : p < 4294967296) :
    Calls Tryz.prog 109 #[v, wd p] w fun e w' => e = .returned (.bool (thB xs p)) ∧ w' = w := by
  go_enter Tryz.func109, Tryz.ntmps109
  go_wp2_with (go_at_call 25; refine (rsize_ob h).mono ?_; rintro e w' ⟨rfl, rfl⟩)
  go_ret
  exact ⟨rfl, rfl⟩
theorem rload_ob {w : World} {v : Value} {b : Nat} {xs : List Int} (h : Ob 81 w v b xs) (p : Int) (p0 : 0 ≤ p) (p1 : p < 4294967296) :
    Calls Tryz.prog 102 #[v, wd p] w fun e w' => e = .returned (.tuple #[wd (ldI xs p), .bool (beB xs p)]) ∧ w' = w := by
  unfold ldI
  by_cases hp : p % 4 = 0
  · have hb : beB xs p = thB xs p := by simp [beB, thB, hp]
    rw [hb]
    cases h0 : thB xs p
    · go_enter Tryz.func102, Tryz.ntmps102
      go_wp2_with (go_at_call 109; refine (rthere_ob h _ (by omega) (by omega)).mono ?_; rw [h0]; rintro e w' ⟨rfl, rfl⟩)
      go_ret2
      exact ⟨rfl, rfl⟩
    · obtain ⟨k, hk⟩ := nat_of p p0
      have hl : k < xs.length := by simp [thB] at h0; omega
      rcases h with ⟨rfl, rfl⟩ | ⟨a, c, rfl, h⟩
      · simp at hl
      · have hm := h.row.max
        have hle := h.row.le
        unfold maxLen at hm
        have hc := h.cell
        have hd := h.row.cell hl
        have H : Hid (Ob 81 w (.pointer (some ⟨a, 0, none⟩)) b xs) := .inr ⟨a, c, rfl, h⟩
        obtain ⟨X, hX⟩ : ∃ X, at0 xs k = X := ⟨_, rfl⟩
        rw [hX] at hd
        go_enter Tryz.func102, Tryz.ntmps102
        go_wp2_with (go_at_call 109; refine (rthere_ob H.out _ (by omega) (by omega)).mono ?_; rw [h0]; rintro e w' ⟨rfl, rfl⟩)
        go_ret2
        exact ⟨rfl, rfl⟩
  · have hb : beB xs p = false := by simp [beB, hp]
    rw [hb]
    go_enter Tryz.func102, Tryz.ntmps102
    go_wp2_with (go_at_call 109; refine (rthere_ob h _ (by omega) (by omega)).mono ?_; rintro e w' ⟨rfl, rfl⟩)
    go_ret2
    exact ⟨rfl, rfl⟩
theorem rstore_ob {w : World} {v : Value} {b : Nat} {xs : List Int} (h : Ob 81 w v b xs) (p x : Int) (p0 : 0 ≤ p) (p1 : p < 4294967296) (x0 : 0 ≤ x) (x1 : x < 4294967296) :
    Calls Tryz.prog 100 #[v, wd p, wd x] w fun e w' => e = .returned (.bool (beB xs p)) ∧ w.grownBy w' (some b) ∧ Ob 81 w' v b (stL xs p x) := by
  unfold stL
  by_cases hp : p % 4 = 0
  · have hb : beB xs p = thB xs p := by simp [beB, thB, hp]
    rw [hb]
    cases h0 : thB xs p
    · have H : Hid (Ob 81 w v b xs) := h
      go_enter Tryz.func100, Tryz.ntmps100
      go_wp2_with (go_at_call 109; refine (rthere_ob H.out _ (by omega) (by omega)).mono ?_; rw [h0]; rintro e w' ⟨rfl, rfl⟩)
      go_ret
      exact ⟨rfl, World.grownBy.refl _ _, H.out⟩
    · obtain ⟨k, hk⟩ := nat_of p p0
      have hl : k < xs.length := by simp [thB] at h0; omega
      rcases h with ⟨rfl, rfl⟩ | ⟨a, c, rfl, h⟩
      · simp at hl
      · have hm := h.row.max
        have hle := h.row.le
        unfold maxLen at hm
        have hc := h.cell
        have hd := h.row.cell hl
        have hf := h.row.free k
        have H : Hid (Ob 81 w (.pointer (some ⟨a, 0, none⟩)) b xs) := .inr ⟨a, c, rfl, h⟩
        have HS : Hid (Mm 81 (w.setCell ⟨b, k, none⟩ (wd x)) a b c (xs.set k x)) := h.set (by decide) x0 x1
        go_enter Tryz.func100, Tryz.ntmps100
        go_wp2_with (go_at_call 109; refine (rthere_ob H.out _ (by omega) (by omega)).mono ?_; rw [h0]; rintro e w' ⟨rfl, rfl⟩)
        go_ret
        refine ⟨rfl, grown_set _ _ _ _, .inr ⟨a, c, rfl, ?_⟩⟩
        exact HS.out
  · have hb : beB xs p = false := by simp [beB, hp]
    rw [hb]
    have H : Hid (Ob 81 w v b xs) := h
    go_enter Tryz.func100, Tryz.ntmps100
    go_wp2_with (go_at_call 109; refine (rthere_ob H.out _ (by omega) (by omega)).mono ?_; rintro e w' ⟨rfl, rfl⟩)
    go_ret
    exact ⟨rfl, World.grownBy.refl _ _, H.out⟩
theorem scale_any (p : Int) (w : World) (p0 : 0 ≤ p) (p1 : p < 4294967296) : Calls Tryz.prog 110 #[wd p] w fun e w' => e = .returned (wd (sc p)) ∧ w' = w := by
  rcases sc_cases p with ⟨h, hs⟩ | ⟨h, hs⟩ | ⟨h, hs⟩ | ⟨h, hs⟩
  all_goals
    rw [hs]
    go_enter Tryz.func110, Tryz.ntmps110
    go_wp2
    refine wp_loop_rounds 5 ?_
    repeat (rw [rounds_succ]; go_wp2)
    go_ret
    exact ⟨rfl, rfl⟩
theorem rbyte_ob {w : World} {v : Value} {b : Nat} {xs : List Int} (h : Ob 81 w v b xs) (p : Int) (p0 : 0 ≤ p) (p1 : p < 4294967296) :
    Calls Tryz.prog 101 #[v, wd p] w fun e w' => e = .returned (.tuple #[wd (byI xs p), .bool (thB xs p)]) ∧ ∃ d, w' = w.drewN d := by
  unfold byI
  cases h0 : thB xs p
  · go_enter Tryz.func101, Tryz.ntmps101
    go_wp2_with (go_at_call 109; refine (rthere_ob h _ (by omega) (by omega)).mono ?_; rw [h0]; rintro e w' ⟨rfl, rfl⟩)
    go_ret2
    exact ⟨rfl, 0, rfl⟩
  · obtain ⟨k, hk⟩ := nat_of p p0
    have hl : k < xs.length := by simp [thB] at h0; omega
    rcases h with ⟨rfl, rfl⟩ | ⟨a, c, rfl, h⟩
    · simp at hl
    · have hm := h.row.max
      have hle := h.row.le
      unfold maxLen at hm
      have hc := h.cell
      have hd := h.row.cell hl
      have H : Hid (Ob 81 w (.pointer (some ⟨a, 0, none⟩)) b xs) := .inr ⟨a, c, rfl, h⟩
      obtain ⟨X, hX⟩ : ∃ X, at0 xs k = X := ⟨_, rfl⟩
      have hr := rng_at h.row.rng k
      rw [hX] at hd hr
      obtain ⟨S, hS⟩ : ∃ S, sc p = S := ⟨_, rfl⟩
      have s0 : 0 < S ∧ S < 4294967296 := by rcases sc_cases p with h | h | h | h <;> omega
      have q0 : 0 ≤ X / S := Int.ediv_nonneg hr.1 (by omega)
      have q1 : X / S < 4294967296 := Int.lt_of_le_of_lt (Int.ediv_le_self S hr.1) hr.2
      have s1 : (S == 0) = false := by simp; omega
      go_enter Tryz.func101, Tryz.ntmps101
      go_wp2_with (go_at_call 109; refine (rthere_ob H.out _ (by omega) (by omega)).mono ?_; rw [h0]; rintro e w' ⟨rfl, rfl⟩)
      go_quiet ((go_at_call 110; refine Calls.quiet_of_same (hS ▸ scale_any _ _ p0 p1)))
      go_wp2
      go_ret2
      exact ⟨rfl, _, rfl⟩
end Go.Proofs.YtjneaphlghfbhaaGreatDoor.Mem
