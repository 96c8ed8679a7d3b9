/-
  What Go's own strconv.FormatInt answers of any number in base 16.
-/
import Derived.Test.YthnkkcamfcmhmaaDoorLx11
import Derived.Test.YthnkkcamfcmhmaaDoorShelf
namespace Go.Proofs.YthnkkcamfcmhmaaDoor.Lx
open Go.RowKit Go.Proofs.YthnkkcamfcmhmaaDoor.Tx
set_option linter.unusedVariables false
set_option linter.unusedSimpArgs false
set_option maxRecDepth 100000

def DebAt (w : World) : Prop := w.cell? ⟨11, 15, none⟩ = some (.int .u8 4)
set_option maxHeartbeats 1000000 in
theorem tz64_16 (w : World) (h : DebAt w) : Calls Tryd.prog 101 #[.int .u64 16] w fun e w' => e = .returned (.int .i64 4) ∧ w' = w := by
  unfold DebAt at h
  have h1 : IntKind.u64.wrap (-16) = 18446744073709551600 := by decide
  have h2 : bits .and .u64 16 18446744073709551600 = 16 := by decide
  have h3 : IntKind.u64.wrap (4573923408821661840) = 4573923408821661840 := by decide
  go_enter Tryd.func101, Tryd.ntmps101
  go_wp2
  go_ret
  exact ⟨rfl, rfl⟩
theorem tz_16 (w : World) (h : DebAt w) : Calls Tryd.prog 96 #[.int .u64 16] w fun e w' => e = .returned (.int .i64 4) ∧ w' = w := by
  go_enter Tryd.func96, Tryd.ntmps96
  go_wp2_with (go_at_call 101; refine (tz64_16 _ h).mono ?_; rintro e w1 ⟨rfl, rfl⟩)
  go_ret
  exact ⟨rfl, rfl⟩
theorem pow2_16 (w : World) : Calls Tryd.prog 95 #[.int .i64 16] w fun e w' => e = .returned (.bool true) ∧ w' = w := by
  have h2 : bits .and .i64 16 15 = 0 := by decide
  go_enter Tryd.func95, Tryd.ntmps95
  go_wp2
  go_ret
  exact ⟨rfl, rfl⟩
def byt (l : List UInt8) : List Value := l.map fun c => Value.int .u8 (c.toNat : Int)
def rowA (l : List UInt8) : Array Value := (List.replicate (65 - l.length) (Value.int .u8 0) ++ byt l).toArray
def BufA (W : World) (b : Nat) (l : List UInt8) : Prop := W.heap[b]? = some (.cells (rowA l) 149 (0, 0))
theorem rowA_set {l : List UInt8} {j : Nat} (hj : j + 1 + l.length = 65) (c : UInt8) : (rowA l).setIfInBounds j (.int .u8 (c.toNat : Int)) = rowA (c :: l) := by
  unfold rowA byt
  have e1 : 65 - l.length = j + 1 := by omega
  have e2 : 65 - (c :: l).length = j := by simp; omega
  rw [e1, e2, List.replicate_succ']
  simp [List.append_assoc]
theorem frozen_of_row' {W : World} {b i : Nat} {c : Array Value} {t : TypeId} (h : W.heap[b]? = some (.cells c t (0, 0))) : W.frozen? ⟨b, i, none⟩ = false := free_at h
theorem BufA.cell {W : World} {b : Nat} {l : List UInt8} (h : BufA W b l) (i : Nat) : W.cell? ⟨b, i, none⟩ = (rowA l)[i]? := cell_of_row _ _ _ _ _ _ h
theorem BufA.frozen {W : World} {b : Nat} {l : List UInt8} (h : BufA W b l) (i : Nat) : W.frozen? ⟨b, i, none⟩ = false := free_at h
theorem BufA.set {W : World} {b : Nat} {l : List UInt8} (h : BufA W b l) {j : Nat} (hj : j + 1 + l.length = 65) (c : UInt8) : BufA (W.setCell ⟨b, j, none⟩ (.int .u8 (c.toNat : Int))) b (c :: l) := by
  have := heap_setCell_same _ _ j _ _ (.int .u8 (c.toNat : Int)) h
  rw [rowA_set hj] at this
  exact this
theorem idx_hex (r : Nat) (h : r < 16) (W : World) : (Instr.index 9 (.string ⟨#[48, 49, 50, 51, 52, 53, 54, 55, 56, 57, 97, 98, 99, 100, 101, 102, 103, 104, 105, 106, 107, 108, 109, 110, 111, 112, 113, 114, 115, 116, 117, 118, 119, 120, 121, 122]⟩) (.int .u64 r)).run Tryd.prog W = .ok (.int .u8 ((hdl r).toNat : Int)) W := by
  have : r = 0 ∨ r = 1 ∨ r = 2 ∨ r = 3 ∨ r = 4 ∨ r = 5 ∨ r = 6 ∨ r = 7 ∨ r = 8 ∨ r = 9 ∨ r = 10 ∨ r = 11 ∨ r = 12 ∨ r = 13 ∨ r = 14 ∨ r = 15 := by omega
  rcases this with h | h | h | h | h | h | h | h | h | h | h | h | h | h | h | h <;> subst h <;> rfl
theorem conv_buf {W : World} {b : Nat} {l : List UInt8} (h : BufA W b l) {j : Nat} (hj : j + l.length = 65) (cap : Nat) : (convert 34 9 (.slice (some ⟨b, j, none⟩) l.length cap)).run Tryd.prog W = .ok (.string (bs l)) W := by
  refine run_convert_bytes_back (P := Tryd.prog) W 34 9 5 ⟨b, j, none⟩ cap l Tryd.underlying34 Tryd.underlying5 Tryd.underlying9 (fun i hi => ?_)
  simp only [Addr.add_lit]
  rw [h.cell]
  unfold rowA byt
  simp only [List.getElem?_toArray]
  rw [List.getElem?_append_right (by simp; omega)]
  simp
  have e : j + i - (65 - l.length) = i := by omega
  rw [e, List.getElem?_eq_getElem hi]
  simp
theorem and15 (z : Int) (h0 : 0 ≤ z) (h1 : z < 18446744073709551616) : bits .and .u64 z 15 = z % 16 := by go_bits2
theorem sl65 (b j : Nat) (hj : j < 65) (W : World) : (Instr.sliceAt 149 (.pointer (some ⟨b, 0, none⟩)) (some (.int .i64 j)) none none).run Tryd.prog W = .ok (.slice (some ⟨b, j, none⟩) (65 - j) (65 - j)) W := by
  have hl : Tryd.prog.arrayLen 149 = 65 := by kernel_rfl
  have he : Tryd.prog.elem 149 = 5 := by kernel_rfl
  have hs : (sizeOf 5).run Tryd.prog W = .ok 1 W := by kernel_rfl
  rw [run_sliceAt_array_l (P := Tryd.prog) W 149 ⟨b, 0, none⟩ (by kernel_rfl) .i64 (j : Int) (by omega) (by rw [hl]; omega), he, hs, hl]
  simp only [Result.andThen_ok, slicedAt, Int.toNat_natCast, Nat.mul_one]
  rw [if_neg (by omega)]
  simp [Addr.add]
  exact fun h => h.symm
theorem set_g0 {w W : World} (h : w.grownBy W none) {a : Addr} (ha : w.heap.size ≤ a.block) (v : Value) : w.grownBy (W.setCell a v) none :=
  ⟨h.os, h.tape, h.output, by simpa [World.setCell] using h.size, fun k hk _ => (Below.heap_setCell _ _ _ _ (by omega)).trans (h.block k hk (by simp))⟩
theorem hl_step {u0 u : Nat} {l : List UInt8} (h : hlF 16 u0 = hlF (16 - l.length) u ++ l ∧ u < 16 ^ (16 - l.length)) (h15 : l.length ≤ 15) (hu : ¬ u < 16) : (hlF 16 u0 = hlF (16 - (hdl (u % 16) :: l).length) (u / 16) ++ (hdl (u % 16) :: l) ∧ u / 16 < 16 ^ (16 - (hdl (u % 16) :: l).length)) ∧ l.length ≤ 14 := by
  have h16 := h.2
  have hl6 : l.length ≤ 14 := by
    rcases Nat.lt_or_ge l.length 15 with h | h
    · omega
    · have e : 16 - l.length = 1 := by omega
      rw [e] at h16
      omega
  obtain ⟨m, hm⟩ : ∃ m, 16 - l.length = m + 1 := ⟨15 - l.length, by omega⟩
  have hm' : 16 - (hdl (u % 16) :: l).length = m := by simp; omega
  refine ⟨⟨?_, ?_⟩, hl6⟩
  · rw [hm', h.1, hm, hlF, if_neg hu]
    simp
  · rw [hm']
    rw [hm, Nat.pow_succ] at h16
    omega
theorem hl_done {u0 u : Nat} {l : List UInt8} (h : hlF 16 u0 = hlF (16 - l.length) u ++ l ∧ u < 16 ^ (16 - l.length)) (h15 : l.length ≤ 15) (hu : u < 16) : hlF 16 u0 = hdl u :: l := by
  obtain ⟨m, hm⟩ : ∃ m, 16 - l.length = m + 1 := ⟨15 - l.length, by omega⟩
  rw [h.1, hm, hlF, if_pos hu]
  rfl
set_option maxHeartbeats 4000000 in
theorem fb_pos (u0 : Nat) (hu : (u0 : Int) < 18446744073709551616) (w : World) (hD : DebAt w) (hw : 11 < w.heap.size) :
    Calls Tryd.prog 87 #[.slice none 0 0, .int .u64 u0, .int .i64 16, .bool false, .bool false] w fun e w' => ∃ d, e = .returned (.tuple #[d, .string (bs (hlF 16 u0))]) ∧ w.grownBy w' none := by
  have HD : Hid (∀ o, DebAt (w.alloc o)) := hide (fun o => (gcell (World.grownBy_alloc w o none) _ _ (by omega)).trans hD)
  clear hD hw
  have HU := hide (show hlF 16 u0 = hlF (16 - ([] : List UInt8).length) u0 ++ [] ∧ u0 < 16 ^ (16 - ([] : List UInt8).length) from ⟨by simp, by show u0 < 18446744073709551616; omega⟩)
  go_enter Tryd.func87, Tryd.ntmps87
  go_wp2_with (first
    | (go_at_call 95; refine (pow2_16 _).mono ?_; rintro e w1 ⟨rfl, rfl⟩)
    | (go_at_call 96; refine (tz_16 _ (HD.out _)).mono ?_; rintro e w1 ⟨rfl, rfl⟩))
  go_loopw [1, 13] (fun vu vi W => ∃ (u j : Nat) (l : List UInt8), vu = .int .u64 u ∧ vi = .int .i64 ((j : Int) + 1) ∧ j + 1 + l.length = 65 ∧ l.length ≤ 15 ∧ (u : Int) < 18446744073709551616 ∧ w.grownBy W none ∧ BufA W w.heap.size l ∧ Hid (hlF 16 u0 = hlF (16 - l.length) u ++ l ∧ u < 16 ^ (16 - l.length)))
    (fun vu _ _ => (intOf vu).toNat)
  case atStart =>
    refine ⟨u0, 64, [], rfl, rfl, rfl, by decide, hu, World.grownBy_alloc _ _ _, ?_, HU⟩
    exact heap_alloc_new _ _
  case round =>
    obtain ⟨u, j, l, rfl, rfl, hjl, hl7, hu64, hg, hB, hH⟩ := hrel
    have HG := hide hg
    have HB := hide hB
    have hfz := hB.frozen j
    have hcl : wr.cell? ⟨w.heap.size, j, none⟩ = some (.int .u8 0) := by
      rw [hB.cell, rowA]
      simp only [List.getElem?_toArray]
      rw [List.getElem?_append_left (by simp; omega), List.getElem?_replicate_of_lt (by omega)]
    have hj64 : (j : Int) ≤ 64 := by omega
    have HJL := hide hjl
    clear hg hB hjl hu
    by_cases hge : 16 ≤ (u : Int)
    · obtain ⟨r, hr⟩ : ∃ r, u % 16 = r := ⟨_, rfl⟩
      obtain ⟨q, hq⟩ : ∃ q, u / 16 = q := ⟨_, rfl⟩
      have HS := hide (hl_step hH.out hl7 (by omega))
      rw [hr, hq] at HS
      have hr16 : r < 16 := by omega
      have hand : bits .and .u64 (u : Int) 15 = (r : Int) := by
        have := and15 (u : Int) (by omega) (by omega)
        rw [this]; omega
      have hsh : (u : Int) / 16 = (q : Int) := by omega
      have hix := idx_hex r hr16
      have HQ := hide hq
      clear hq hr
      go_wp2
      obtain ⟨j', rfl⟩ : ∃ j', j = j' + 1 := ⟨j - 1, by have := HJL.out; omega⟩
      refine ⟨⟨q, j', hdl r :: l, rfl, by first | rfl | simp, by have := HJL.out; simp; omega, by have := HS.out.2; simp; omega, by have := HQ.out; omega, set_g0 HG.out (by simp) _, HB.out.set HJL.out _, hide HS.out.1⟩, by have := HQ.out; simp [intOf]; omega⟩
    · have hix := idx_hex u (by omega)
      have hsl := sl65 w.heap.size j (by omega)
      obtain ⟨n, hn⟩ : ∃ n, 65 - j = n := ⟨_, rfl⟩
      have hnl : (hdl u :: l).length = n := by have := HJL.out; simp; omega
      have hcv := conv_buf (HB.out.set HJL.out (hdl u)) (j := j) (by have := HJL.out; simp; omega) n
      rw [hnl] at hcv
      rw [hn] at hsl
      have HE := hide (hl_done hH.out hl7 (by omega))
      clear hn hnl
      go_wp2
      go_ret2
      exact ⟨⟨_, by rw [HE.out]; rfl⟩, set_g0 HG.out (by simp) _⟩
end Go.Proofs.YthnkkcamfcmhmaaDoor.Lx
