/-
  The laws' own way to play instructions: 'append(words, make([]uint32, 8)...)', and what 'played' answers.
-/
import Derived.Test.YtjneaphlghfbhabDoorCwak
namespace Go.Proofs.YtjneaphlghfbhabDoor.Cpu
open Go.RowKit Go.Proofs.YtjneaphlghfbhabDoor.Bits Go.Proofs.YtjneaphlghfbhabDoor.Gw Go.Proofs.YtjneaphlghfbhabDoor.Risc Go.Proofs.YtjneaphlghfbhabDoor.Alu Go.Proofs.YtjneaphlghfbhabDoor.Mem
set_option linter.unusedVariables false

def zs8 : List Value := [wd 0, wd 0, wd 0, wd 0, wd 0, wd 0, wd 0, wd 0]
set_option maxHeartbeats 1000000 in
set_option maxRecDepth 100000 in
theorem run_append_zeros {w : World} {base n : Nat} {v : Value} {xs : List Value} (hown : w.ownsRow base 39 1 v n xs) (hn : v ≠ .slice none 0 0) (hl : n ≤ 1000000) (hb : base ≤ w.heap.size) (ty : TypeId) :
    ∃ v' w', (Builtin.append_ #[35, 3] ty #[v, .int .i64 8]).run Tryd.prog w = .ok v' w' ∧ w'.ownsRow base 39 1 v' (n + 8) (xs ++ zs8) ∧ w.grownBy w' v.ownBlock := by
  obtain ⟨i0, hi, hz0, hz1, hz2⟩ := info_parts Tryd.info34
  have hlen : xs.length = n := by simpa using hown.1
  rcases hown.2 with ⟨rfl, _⟩ | ⟨g, cap, cur, rfl, hbg, hg, hnc, hcm, hcs, htake⟩
  · exact absurd rfl hn
  · have hz : (Builtin.zeroCells (Value.int IntKind.u32 0).cells 8) = zs8.toArray := by kernel_rfl
    have hd8 : (zs8 : List Value).length = 8 := rfl
    have w8 : IntKind.i64.wrap 8 = 8 := by decide
    by_cases hroom : n + 8 ≤ cap
    · have hst := run_storeCells_at Tryd.prog g n 39 zs8 0 cur w hg (by simp [hd8]; omega) (by intro u hu; simp [zs8] at hu; subst hu; rfl)
      refine ⟨.slice (some ⟨g, 0, none⟩) (n + 8) cap, w.setRow g (cur.toList.take n ++ zs8 ++ cur.toList.drop (n + 8)).toArray, ?_, ?_, ?_⟩
      · simp only [Nat.add_zero] at hst
        simp [Builtin.append_, run_underlying Tryd.underlying35, run_underlying Tryd.underlying3, sizeOf, typeInfo, zeroValue, hi, hz0, hz1, hz2, Addr.add_lit, asInt, asIntOf, w8, hroom, hz, hst, hd8]
      · refine ⟨by simp [hlen, hd8], .inr ⟨g, cap, _, rfl, hbg, setRow_heap w g cur _ 39 _ hg, hroom, hcm, ?_, ?_⟩⟩
        · simp [hd8]; omega
        · have e : cur.toList.take n = xs := by simpa using htake
          rw [e, Nat.mul_one]
          show ((xs ++ zs8) ++ cur.toList.drop (n + 8)).take (n + 8) = _
          have : (xs ++ zs8).length = n + 8 := by simp [hlen, hd8]
          rw [← this]; exact List.take_left
      · exact ⟨rfl, rfl, rfl, by simp [World.setRow], fun k _ hk => setRow_other w g k _ (fun e => hk (by simp [Value.ownBlock, e]))⟩
    · have hfo := run_firstCells_some (P := Tryd.prog) w.drew 1 n ⟨g, 0, none⟩ n cap xs (by simpa using hlen) (by simpa using hown.cells (g := g) rfl)
      have hfit : Builtin.nextslicecap (n + 8) cap * 4 ≤ 281474976710656 := growslice_fits (by omega) (by omega)
      have h48 : ¬ (281474976710656 < Builtin.nextslicecap (n + 8) cap * 4) := by omega
      have h63 : ¬ (9223372036854775807 < (n : Int) + max 8 0) := by omega
      have hge := grownCap_ge w (n + 8) cap 39
      have hcm' : grownCap w (n + 8) cap 39 ≤ maxLen := grownCap_le_maxLen w (n + 8) cap 39 (by unfold maxLen; omega)
      refine ⟨.slice (some ⟨w.heap.size, 0, none⟩) (n + 8) (grownCap w (n + 8) cap 39), w.drew.alloc (.cells (xs.toArray ++ zs8.toArray ++ Builtin.zeroCells (Value.int IntKind.u32 0).cells (grownCap w (n + 8) cap 39 - (n + 8))) 39), ?_, ?_, ?_⟩
      · simp [Builtin.append_, run_underlying Tryd.underlying35, run_underlying Tryd.underlying3, sizeOf, typeInfo, zeroValue, hi, hz0, hz1, hz2, asInt, asIntOf, w8, hroom, hz, h48, h63, Question.forced, hfo, newRow, grownCap]
        congr 2
        apply Array.ext'
        simp
      · refine ⟨by simp [hlen, hd8], .inr ⟨w.heap.size, _, _, rfl, hb, heap_alloc_new w.drew _, hge, hcm', ?_, ?_⟩⟩
        · simp [size_zeroCells, hlen, hd8, Value.cells]; omega
        · simp only [Array.toList_append, Nat.mul_one]
          have : (xs ++ zs8).length = n + 8 := by simp [hlen, hd8]
          rw [← this]; exact List.take_left
      · exact ⟨rfl, rfl, rfl, by simp, fun k hk _ => (World.grownBy_alloc w.drew _ none).block k hk (by simp)⟩
end Go.Proofs.YtjneaphlghfbhabDoor.Cpu
