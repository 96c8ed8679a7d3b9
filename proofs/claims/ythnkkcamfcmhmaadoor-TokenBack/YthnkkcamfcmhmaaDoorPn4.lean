/-
  What Go's own strconv.FormatInt answers of a number below 0 in base 16.
-/
import Derived.Test.YthnkkcamfcmhmaaDoorPn2
namespace Go.Proofs.YthnkkcamfcmhmaaDoor.Lx
open Go.RowKit Go.Proofs.YthnkkcamfcmhmaaDoor.Tx
set_option linter.unusedVariables false
set_option linter.unusedSimpArgs false
set_option maxRecDepth 100000

set_option maxHeartbeats 4000000 in
theorem fb_neg (u0 : Nat) (U : Int) (hU : IntKind.u64.wrap (-U) = (u0 : Int)) (hu : (u0 : Int) < 18446744073709551616) (w : World) (hD : DebAt w) (hw : 11 < w.heap.size) :
    Calls Tryd.prog 87 #[.slice none 0 0, .int .u64 U, .int .i64 16, .bool true, .bool false] w fun e w' => ∃ d, e = .returned (.tuple #[d, .string (bs (45 :: hlF 16 u0))]) ∧ w.grownBy w' none := by
  have HD : Hid (∀ o, DebAt (w.alloc o)) := hide (fun o => (gcell (World.grownBy_alloc w o none) _ _ (by omega)).trans hD)
  clear hD hw
  have HU := hide (show hlF 16 u0 = hlF (16 - ([] : List UInt8).length) u0 ++ [] ∧ u0 < 16 ^ (16 - ([] : List UInt8).length) from ⟨by simp, by show u0 < 18446744073709551616; omega⟩)
  go_enter Tryd.func87, Tryd.ntmps87
  go_wp2_with (first
    | (go_at_call 95; refine (pow2_16 _).mono ?_; rintro e w1 ⟨rfl, rfl⟩)
    | (go_at_call 96; refine (tz_16 _ (HD.out _)).mono ?_; rintro e w1 ⟨rfl, rfl⟩))
  go_loopw [1, 13] (fun vu vi W => ∃ (u j : Nat) (l : List UInt8), vu = .int .u64 u ∧ vi = .int .i64 ((j : Int) + 1) ∧ j + 1 + l.length = 65 ∧ l.length ≤ 15 ∧ (u : Int) < 18446744073709551616 ∧ w.grownBy W none ∧ BufA W w.heap.size l ∧ Hid (hlF 16 u0 = hlF (16 - l.length) u ++ l ∧ u < 16 ^ (16 - l.length)))
    (fun vu _ _ => (intOf vu).toNat)
  case atStart =>
    refine ⟨u0, 64, [], rfl, rfl, rfl, by decide, hu, World.grownBy_alloc _ _ _, ?_, HU⟩
    exact heap_alloc_new _ _
  case round =>
    obtain ⟨u, j, l, rfl, rfl, hjl, hl7, hu64, hg, hB, hH⟩ := hrel
    have HG := hide hg
    have HB := hide hB
    have hfz := hB.frozen j
    have hcl : wr.cell? ⟨w.heap.size, j, none⟩ = some (.int .u8 0) := by
      rw [hB.cell, rowA]
      simp only [List.getElem?_toArray]
      rw [List.getElem?_append_left (by simp; omega), List.getElem?_replicate_of_lt (by omega)]
    have hj64 : (j : Int) ≤ 64 := by omega
    have HJL := hide hjl
    clear hg hB hjl hu
    by_cases hge : 16 ≤ (u : Int)
    · obtain ⟨r, hr⟩ : ∃ r, u % 16 = r := ⟨_, rfl⟩
      obtain ⟨q, hq⟩ : ∃ q, u / 16 = q := ⟨_, rfl⟩
      have HS := hide (hl_step hH.out hl7 (by omega))
      rw [hr, hq] at HS
      have hr16 : r < 16 := by omega
      have hand : bits .and .u64 (u : Int) 15 = (r : Int) := by
        have := and15 (u : Int) (by omega) (by omega)
        rw [this]; omega
      have hsh : (u : Int) / 16 = (q : Int) := by omega
      have hix := idx_hex r hr16
      have HQ := hide hq
      clear hq hr
      go_wp2
      obtain ⟨j', rfl⟩ : ∃ j', j = j' + 1 := ⟨j - 1, by have := HJL.out; omega⟩
      refine ⟨⟨q, j', hdl r :: l, rfl, by first | rfl | simp, by have := HJL.out; simp; omega, by have := HS.out.2; simp; omega, by have := HQ.out; omega, set_g0 HG.out (by simp) _, HB.out.set HJL.out _, hide HS.out.1⟩, by have := HQ.out; simp [intOf]; omega⟩
    · have hix := idx_hex u (by omega)
      obtain ⟨j', rfl⟩ : ∃ j', j = j' + 1 := ⟨j - 1, by have := HJL.out; omega⟩
      have hj' : (j' : Int) ≤ 64 := by omega
      have hsl := sl65 w.heap.size j' (by omega)
      obtain ⟨n, hn⟩ : ∃ n, 65 - j' = n := ⟨_, rfl⟩
      have hnl : ((45 : UInt8) :: hdl u :: l).length = n := by have := HJL.out; simp; omega
      have HB1 := HB.out.set HJL.out (hdl u)
      have hj1 : j' + 1 + (hdl u :: l).length = 65 := by have := HJL.out; simp; omega
      have hcl1 : (wr.setCell ⟨w.heap.size, j' + 1, none⟩ (.int .u8 ((hdl u).toNat : Int))).cell? ⟨w.heap.size, j', none⟩ = some (.int .u8 0) := by
        rw [HB1.cell, rowA]
        simp only [List.getElem?_toArray]
        rw [List.getElem?_append_left (by simp at hj1 ⊢; omega), List.getElem?_replicate_of_lt (by simp at hj1 ⊢; omega)]
      have hfz1 := HB1.frozen j'
      have hcv := conv_buf (HB1.set hj1 45) (j := j') (by simp at hj1 ⊢; omega) n
      rw [hnl] at hcv
      rw [hn] at hsl
      have h45 : ((45 : UInt8).toNat : Int) = 45 := rfl
      rw [h45] at hcv
      have HE := hide (hl_done hH.out hl7 (by omega))
      have sjj : ((j' + 1 : Nat) : Int) = (j' : Int) + 1 := by omega
      clear hn hnl HB1 hj1
      go_wp2
      go_ret2
      exact ⟨⟨_, by rw [HE.out]; rfl⟩, set_g0 (set_g0 HG.out (by simp) _) (by simp) _⟩
end Go.Proofs.YthnkkcamfcmhmaaDoor.Lx
