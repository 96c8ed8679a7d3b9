/-
  The law's walk: lines of words are those words, and words of lines those lines.
-/
import Derived.Test.YtjeogojgabfbiaaGreatDoorLx
namespace Go.Proofs.YtjeogojgabfbiaaGreatDoor.Asm
open Go.RowKit Go.Maps Go.Proofs.YtjeogojgabfbiaaGreatDoor.Bits Go.Proofs.YtjeogojgabfbiaaGreatDoor.Gw Go.Proofs.YtjeogojgabfbiaaGreatDoor.Risc Go.Proofs.YtjeogojgabfbiaaGreatDoor.Tx Go.Proofs.YtjeogojgabfbiaaGreatDoor.Mp
set_option linter.unusedVariables false
set_option linter.unusedSimpArgs false
set_option maxRecDepth 100000

theorem words_lines (xs : List Int) (hr : ∀ x ∈ xs, U32 x) (hn : xs.length ≤ 2000) (w : World) (A : AH w) :
    Calls Tryz.prog 12 #[.string (bs (linesT xs))] w fun e w' => w.grownBy w' none ∧ ∃ ao cp, e = .returned (.tuple #[.slice ao xs.length cp, .int .i64 0, .int .i64 0]) ∧ Sr w' ao xs := by
  refine (cwords_any (linesT xs) (by have := linesT_len xs; omega) (by rw [count_lines xs hr]; omega) w A).mono ?_
  rintro e w' ⟨ys, t, hs, hg, h⟩
  obtain ⟨rfl, rfl⟩ := Sp.uniq hs (Sp.ended hr)
  rcases h with ⟨_, v, rfl, ho⟩ | ⟨h, _⟩
  · obtain ⟨ao, cp, rfl, S⟩ := own_sr ho hr
    exact ⟨hg, ao, cp, rfl, S⟩
  · exact absurd rfl h
theorem words_text (s : List UInt8) (hs : s.length ≤ 20000) (w : World) (A : AH w) :
    Calls Tryz.prog 12 #[.string (bs s)] w fun e w' => w.grownBy w' none ∧ ((∃ ao cp ys, s = linesT ys ∧ ys.length ≤ 20000 ∧ e = .returned (.tuple #[.slice ao ys.length cp, .int .i64 0, .int .i64 0]) ∧ Sr w' ao ys) ∨ ∃ k : Nat, e = .returned (.tuple #[.slice none 0 0, .int .i64 k, .int .i64 60])) := by
  refine (cwords_any s (by omega) (by have := List.count_le_length (a := (10 : UInt8)) (l := s); omega) w A).mono ?_
  rintro e w' ⟨ys, t, hS, hg, h⟩
  rcases h with ⟨rfl, v, rfl, ho⟩ | ⟨h, rfl⟩
  · obtain ⟨ao, cp, rfl, S⟩ := own_sr ho hS.rng
    have e : s = linesT ys := by rw [hS.eq, List.append_nil]
    have := lines_ge ys
    exact ⟨hg, .inl ⟨ao, cp, ys, e, by rw [e] at hs; omega, rfl, S⟩⟩
  · exact ⟨hg, .inr ⟨_, rfl⟩⟩
theorem empty_new (w : World) (e : TypeId) : (w.alloc (.cells #[] e)).heap[w.heap.size]? = some (.cells #[] e (0, 0)) := heap_alloc_new _ _
theorem Wl.g {w w' : World} {ao : Option Addr} {n cp : Nat} {xs : List Int} (h : Wl w ao n cp xs) (hg : w.grownBy w' Option.none) : Wl w' ao n cp xs := ⟨h.src.g hg, h.len, h.none, h.max⟩
set_option maxHeartbeats 4000000 in
theorem back_walk (w : World) (A : AH w) (o0 : Option Addr) (n0 c0 : Nat) (x0 : List Int) (W0 : Wl w o0 n0 c0 x0) (s : List UInt8) (z1 : s.length ≤ 9223372036854775807) :
    Calls Tryz.prog 6 #[.slice o0 n0 c0, .string (bs s)] w fun e w' => e = .returned (.bool true) ∧ w.grownBy w' none := by
  have HA := hide A
  have hsz := bs_size s
  have hmx := W0.max
  unfold maxLen at hmx
  have HW := hide W0
  clear A W0
  by_cases hn : 2000 < n0
  · go_enter Tryz.func6, Tryz.ntmps6
    go_wp2_with fail
    refine (wakes_any _ HA.out.al).mono ?_
    rintro e w3 ⟨rfl, hg3⟩
    go_wp2_with fail
    go_ret
    exact ⟨rfl, hg3⟩
  · by_cases hl : 20000 < s.length
    · go_enter Tryz.func6, Tryz.ntmps6
      go_wp2_with fail
      refine (wakes_any _ HA.out.al).mono ?_
      rintro e w3 ⟨rfl, hg3⟩
      go_wp2_with fail
      go_ret
      exact ⟨rfl, hg3⟩
    · have HE := hide (HW.out.g (World.grownBy_alloc w (.cells #[] 22) none))
      go_enter Tryz.func6, Tryz.ntmps6
      go_wp2_with (at_builtin; refine wpList_append_src rfl _ _ rfl w.heap.size rfl (empty_new _ _) o0 n0 c0 rfl x0 HE.out (by omega) w.heap.size (Nat.le_refl _) ?_)
      intro ao' c' w1 S1 hb1
      have hl0 := HW.out.len
      have HG1 := hide (below_gg (World.grownBy_alloc w (.cells #[] 22) none) hb1)
      have HR := hide HW.out.src.rng
      subst hl0
      have HS1 := hide S1
      clear S1 hb1
      go_wp2_with fail
      refine (clines_any c' (by omega) w1 (HA.out.g HG1.out) HS1.out).mono ?_
      rintro e w2 ⟨rfl, hg2⟩
      go_wp2_with fail
      refine (words_lines x0 HR.out (by omega) w2 (HA.out.g (grown_trans HG1.out hg2))).mono ?_
      rintro e w3 ⟨hg3, a3, c3, rfl, S3⟩
      have HG3 := hide (grown_trans (grown_trans HG1.out hg2) hg3)
      have HS3 := hide S3
      clear S3 hg2 hg3
      go_wp2_with fail
      refine (kwords_any c3 c0 HS3.out (HW.out.src.g HG3.out) (by omega)).mono ?_
      rintro e w4 ⟨rfl, hg4⟩
      have HG4 := hide (grown_trans HG3.out hg4)
      clear hg4
      go_wp2_with fail
      refine (words_text s (by omega) w4 (HA.out.g HG4.out)).mono ?_
      rintro e w5 ⟨hg5, ⟨a5, c5, ys, hs5, hy5, rfl, S5⟩ | ⟨k, rfl⟩⟩
      · have HG5 := hide (grown_trans HG4.out hg5)
        have HS5 := hide S5
        have HQ := hide hs5
        clear hg5 S5 hs5
        go_wp2_with fail
        refine (clines_any c5 hy5 w5 (HA.out.g HG5.out) HS5.out).mono ?_
        rintro e w6 ⟨rfl, hg6⟩
        rw [← HQ.out]
        go_wp2_with fail
        refine (wakes_any _ (HA.out.g (grown_trans HG5.out hg6)).al).mono ?_
        rintro e w7 ⟨rfl, hg7⟩
        go_wp2_with fail
        go_ret
        exact ⟨rfl, grown_trans (grown_trans HG5.out hg6) hg7⟩
      · have HG5 := hide (grown_trans HG4.out hg5)
        clear hg5
        go_wp2_with fail
        refine (wakes_any _ (HA.out.g HG5.out).al).mono ?_
        rintro e w7 ⟨rfl, hg7⟩
        go_wp2_with fail
        go_ret
        exact ⟨rfl, grown_trans HG5.out hg7⟩
end Go.Proofs.YtjeogojgabfbiaaGreatDoor.Asm
