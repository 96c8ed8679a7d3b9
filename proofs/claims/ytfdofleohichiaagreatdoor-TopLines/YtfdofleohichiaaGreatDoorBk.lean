/-
  The law's walk: lines of words are those words, and words of lines those lines.
-/
import Derived.Test.YtfdofleohichiaaGreatDoorLx
namespace Go.Proofs.YtfdofleohichiaaGreatDoor.Asm
open Go.RowKit Go.Maps Go.Proofs.YtfdofleohichiaaGreatDoor.Bits Go.Proofs.YtfdofleohichiaaGreatDoor.Gw Go.Proofs.YtfdofleohichiaaGreatDoor.Risc Go.Proofs.YtfdofleohichiaaGreatDoor.Tx Go.Proofs.YtfdofleohichiaaGreatDoor.Mp
set_option linter.unusedVariables false
set_option linter.unusedSimpArgs false
set_option maxRecDepth 100000

theorem words_lines (xs : List Int) (hr : ∀ x ∈ xs, U32 x) (hn : xs.length ≤ 2000) (w : World) (A : AH w) :
    Calls Tryz.prog 5 #[.string (bs (linesT xs))] w fun e w' => w.grownBy w' none ∧ ∃ ao cp, e = .returned (.tuple #[.slice ao xs.length cp, .int .i64 0, .int .i64 0]) ∧ Sr w' ao xs := by
  refine (cwords_any (linesT xs) (by have := linesT_len xs; omega) (by rw [count_lines xs hr]; omega) w A).mono ?_
  rintro e w' ⟨ys, t, hs, hg, h⟩
  obtain ⟨rfl, rfl⟩ := Sp.uniq hs (Sp.ended hr)
  rcases h with ⟨_, v, rfl, ho⟩ | ⟨h, _⟩
  · obtain ⟨ao, cp, rfl, S⟩ := own_sr ho hr
    exact ⟨hg, ao, cp, rfl, S⟩
  · exact absurd rfl h
theorem words_text (s : List UInt8) (hs : s.length ≤ 20000) (w : World) (A : AH w) :
    Calls Tryz.prog 5 #[.string (bs s)] w fun e w' => w.grownBy w' none ∧ ((∃ ao cp ys, s = linesT ys ∧ ys.length ≤ 20000 ∧ e = .returned (.tuple #[.slice ao ys.length cp, .int .i64 0, .int .i64 0]) ∧ Sr w' ao ys) ∨ ∃ k : Nat, e = .returned (.tuple #[.slice none 0 0, .int .i64 k, .int .i64 60])) := by
  refine (cwords_any s (by omega) (by have := List.count_le_length (a := (10 : UInt8)) (l := s); omega) w A).mono ?_
  rintro e w' ⟨ys, t, hS, hg, h⟩
  rcases h with ⟨rfl, v, rfl, ho⟩ | ⟨h, rfl⟩
  · obtain ⟨ao, cp, rfl, S⟩ := own_sr ho hS.rng
    have e : s = linesT ys := by rw [hS.eq, List.append_nil]
    have := lines_ge ys
    exact ⟨hg, .inl ⟨ao, cp, ys, e, by rw [e] at hs; omega, rfl, S⟩⟩
  · exact ⟨hg, .inr ⟨_, rfl⟩⟩
theorem empty_new (w : World) (e : TypeId) : (w.alloc (.cells #[] e)).heap[w.heap.size]? = some (.cells #[] e (0, 0)) := heap_alloc_new _ _
theorem Wl.g {w w' : World} {ao : Option Addr} {n cp : Nat} {xs : List Int} (h : Wl w ao n cp xs) (hg : w.grownBy w' Option.none) : Wl w' ao n cp xs := ⟨h.src.g hg, h.len, h.none, h.max⟩
end Go.Proofs.YtfdofleohichiaaGreatDoor.Asm
