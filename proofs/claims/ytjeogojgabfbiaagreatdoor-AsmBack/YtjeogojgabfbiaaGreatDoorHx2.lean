/-
  What Go's own strconv.FormatUint answers of a word in base 16.
-/
import Derived.Test.YtjeogojgabfbiaaGreatDoorHx1
import Derived.Test.YtjeogojgabfbiaaGreatDoorAsm18
namespace Go.Proofs.YtjeogojgabfbiaaGreatDoor.Asm
open Go.RowKit Go.Maps Go.Proofs.YtjeogojgabfbiaaGreatDoor.Bits Go.Proofs.YtjeogojgabfbiaaGreatDoor.Gw Go.Proofs.YtjeogojgabfbiaaGreatDoor.Risc Go.Proofs.YtjeogojgabfbiaaGreatDoor.Tx Go.Proofs.YtjeogojgabfbiaaGreatDoor.Mp
set_option linter.unusedVariables false
set_option linter.unusedSimpArgs false
set_option maxRecDepth 100000

def DebAt (w : World) : Prop := w.cell? ⟨20, 15, none⟩ = some (.int .u8 4)
set_option maxHeartbeats 1000000 in
theorem tz64_16 (w : World) (h : DebAt w) : Calls Tryz.prog 145 #[.int .u64 16] w fun e w' => e = .returned (.int .i64 4) ∧ w' = w := by
  unfold DebAt at h
  have h1 : IntKind.u64.wrap (-16) = 18446744073709551600 := by decide
  have h2 : bits .and .u64 16 18446744073709551600 = 16 := by decide
  have h3 : IntKind.u64.wrap (4573923408821661840) = 4573923408821661840 := by decide
  go_enter Tryz.func145, Tryz.ntmps145
  go_wp2
  go_ret
  exact ⟨rfl, rfl⟩
theorem tz_16 (w : World) (h : DebAt w) : Calls Tryz.prog 136 #[.int .u64 16] w fun e w' => e = .returned (.int .i64 4) ∧ w' = w := by
  go_enter Tryz.func136, Tryz.ntmps136
  go_wp2_with (go_at_call 145; refine (tz64_16 _ h).mono ?_; rintro e w1 ⟨rfl, rfl⟩)
  go_ret
  exact ⟨rfl, rfl⟩
theorem pow2_16 (w : World) : Calls Tryz.prog 135 #[.int .i64 16] w fun e w' => e = .returned (.bool true) ∧ w' = w := by
  have h2 : bits .and .i64 16 15 = 0 := by decide
  go_enter Tryz.func135, Tryz.ntmps135
  go_wp2
  go_ret
  exact ⟨rfl, rfl⟩
/- Hexadecimal digits, without leading noughts. -/
def hxN : Nat → Nat → List UInt8
  | 0, _ => []
  | k + 1, u => if u < 16 then [hexC u] else hxN k (u / 16) ++ [hexC (u % 16)]
theorem hxN_len : ∀ k u, (hxN k u).length ≤ k
  | 0, u => by simp [hxN]
  | k + 1, u => by
    have := hxN_len k (u / 16)
    rw [hxN]
    split
    · simp
    · simp; omega
def byt (l : List UInt8) : List Value := l.map fun c => Value.int .u8 (c.toNat : Int)
def rowA (l : List UInt8) : Array Value := (List.replicate (65 - l.length) (Value.int .u8 0) ++ byt l).toArray
def BufA (W : World) (b : Nat) (l : List UInt8) : Prop := W.heap[b]? = some (.cells (rowA l) 169 (0, 0))
theorem rowA_set {l : List UInt8} {j : Nat} (hj : j + 1 + l.length = 65) (c : UInt8) : (rowA l).setIfInBounds j (.int .u8 (c.toNat : Int)) = rowA (c :: l) := by
  unfold rowA byt
  have e1 : 65 - l.length = j + 1 := by omega
  have e2 : 65 - (c :: l).length = j := by simp; omega
  rw [e1, e2, List.replicate_succ']
  simp [List.append_assoc]
theorem BufA.cell {W : World} {b : Nat} {l : List UInt8} (h : BufA W b l) (i : Nat) : W.cell? ⟨b, i, none⟩ = (rowA l)[i]? := cell_of_row _ _ _ _ _ _ h
theorem BufA.frozen {W : World} {b : Nat} {l : List UInt8} (h : BufA W b l) (i : Nat) : W.frozen? ⟨b, i, none⟩ = false := frozen_of_row _ _ _ _ _ h
theorem BufA.set {W : World} {b : Nat} {l : List UInt8} (h : BufA W b l) {j : Nat} (hj : j + 1 + l.length = 65) (c : UInt8) : BufA (W.setCell ⟨b, j, none⟩ (.int .u8 (c.toNat : Int))) b (c :: l) := by
  have := heap_setCell_same _ _ j _ _ (.int .u8 (c.toNat : Int)) h
  rw [rowA_set hj] at this
  exact this
theorem idx_hex (r : Nat) (h : r < 16) (W : World) : (Instr.index 9 (.string ⟨#[48, 49, 50, 51, 52, 53, 54, 55, 56, 57, 97, 98, 99, 100, 101, 102, 103, 104, 105, 106, 107, 108, 109, 110, 111, 112, 113, 114, 115, 116, 117, 118, 119, 120, 121, 122]⟩) (.int .u64 r)).run Tryz.prog W = .ok (.int .u8 ((hexC r).toNat : Int)) W := by
  have : r = 0 ∨ r = 1 ∨ r = 2 ∨ r = 3 ∨ r = 4 ∨ r = 5 ∨ r = 6 ∨ r = 7 ∨ r = 8 ∨ r = 9 ∨ r = 10 ∨ r = 11 ∨ r = 12 ∨ r = 13 ∨ r = 14 ∨ r = 15 := by omega
  rcases this with h | h | h | h | h | h | h | h | h | h | h | h | h | h | h | h <;> subst h <;> rfl
theorem conv_buf {W : World} {b : Nat} {l : List UInt8} (h : BufA W b l) {j : Nat} (hj : j + l.length = 65) (cap : Nat) : (convert 67 9 (.slice (some ⟨b, j, none⟩) l.length cap)).run Tryz.prog W = .ok (.string (bs l)) W := by
  refine run_convert_bytes_back (P := Tryz.prog) W 67 9 5 ⟨b, j, none⟩ cap l Tryz.underlying67 Tryz.underlying5 Tryz.underlying9 (fun i hi => ?_)
  simp only [Addr.add_lit]
  rw [h.cell]
  unfold rowA byt
  simp only [List.getElem?_toArray]
  rw [List.getElem?_append_right (by simp; omega)]
  simp
  have e : j + i - (65 - l.length) = i := by omega
  rw [e, List.getElem?_eq_getElem hi]
  simp
theorem and15 (z : Int) (h0 : 0 ≤ z) (h1 : z < 18446744073709551616) : bits .and .u64 z 15 = z % 16 := by go_bits2
theorem sl65 (b j : Nat) (hj : j < 65) (W : World) : (Instr.sliceAt 169 (.pointer (some ⟨b, 0, none⟩)) (some (.int .i64 j)) none none).run Tryz.prog W = .ok (.slice (some ⟨b, j, none⟩) (65 - j) (65 - j)) W := by
  have hl : Tryz.prog.arrayLen 169 = 65 := by kernel_rfl
  have he : Tryz.prog.elem 169 = 5 := by kernel_rfl
  have hs : (sizeOf 5).run Tryz.prog W = .ok 1 W := by kernel_rfl
  rw [run_sliceAt_array_l (P := Tryz.prog) W 169 ⟨b, 0, none⟩ (by kernel_rfl) .i64 (j : Int) (by omega) (by rw [hl]; omega), he, hs, hl]
  simp only [Result.andThen_ok, slicedAt, Int.toNat_natCast, Nat.mul_one]
  rw [if_neg (by omega)]
  simp [Addr.add]
  exact fun h => h.symm
theorem set_g0 {w W : World} (h : w.grownBy W none) {a : Addr} (ha : w.heap.size ≤ a.block) (v : Value) : w.grownBy (W.setCell a v) none :=
  ⟨h.os, h.tape, h.output, by simpa [World.setCell] using h.size, fun k hk _ => (Below.heap_setCell _ _ _ _ (by omega)).trans (h.block k hk (by simp))⟩
set_option maxHeartbeats 4000000 in
theorem fb_16 (u0 : Nat) (hu : u0 < 4294967296) (w : World) (hD : DebAt w) (hw : 21 ≤ w.heap.size) :
    Calls Tryz.prog 116 #[.slice none 0 0, .int .u64 u0, .int .i64 16, .bool false, .bool false] w fun e w' => ∃ d, e = .returned (.tuple #[d, .string (bs (hxN 8 u0))]) ∧ w.grownBy w' none := by
  have HD : Hid (∀ o, DebAt (w.alloc o)) := hide (fun o => (gcell (World.grownBy_alloc w o none) _ _ (by omega)).trans hD)
  have h16 : (u0 : Int) < 4294967296 := by omega
  have HU := hide hu
  clear hD hw hu
  go_enter Tryz.func116, Tryz.ntmps116
  go_wp2_with (first
    | (go_at_call 135; refine (pow2_16 _).mono ?_; rintro e w1 ⟨rfl, rfl⟩)
    | (go_at_call 136; refine (tz_16 _ (HD.out _)).mono ?_; rintro e w1 ⟨rfl, rfl⟩))
  go_loopw [1, 13] (fun vu vi W => ∃ (u j : Nat) (l : List UInt8), vu = .int .u64 u ∧ vi = .int .i64 ((j : Int) + 1) ∧ j + 1 + l.length = 65 ∧ l.length ≤ 7 ∧ u < 4294967296 ∧ w.grownBy W none ∧ BufA W w.heap.size l ∧ Hid (hxN 8 u0 = hxN (8 - l.length) u ++ l ∧ u < 16 ^ (8 - l.length)))
    (fun vu _ _ => (intOf vu).toNat)
  case atStart =>
    refine ⟨u0, 64, [], rfl, rfl, rfl, by decide, HU.out, World.grownBy_alloc _ _ _, ?_, ?_⟩
    · exact heap_alloc_new _ _
    · exact ⟨by simp, HU.out⟩
  case round =>
    obtain ⟨u, j, l, rfl, rfl, hjl, hl7, hu32, hg, hB, hH⟩ := hrel
    have HG := hide hg
    have HB := hide hB
    have hfz := hB.frozen j
    have hcl : wr.cell? ⟨w.heap.size, j, none⟩ = some (.int .u8 0) := by
      rw [hB.cell, rowA]
      simp only [List.getElem?_toArray]
      rw [List.getElem?_append_left (by simp; omega), List.getElem?_replicate_of_lt (by omega)]
    have hj64 : (j : Int) ≤ 64 := by omega
    have i32 : (u : Int) < 4294967296 := by omega
    have H32 := hide hu32
    have HJL := hide hjl
    clear hg hB hu32 hjl
    by_cases hge : 16 ≤ (u : Int)
    · obtain ⟨r, hr⟩ : ∃ r, u % 16 = r := ⟨_, rfl⟩
      obtain ⟨q, hq⟩ : ∃ q, u / 16 = q := ⟨_, rfl⟩
      have hr16 : r < 16 := by omega
      have hand : bits .and .u64 (u : Int) 15 = (r : Int) := by
        have := and15 (u : Int) (by omega) (by omega)
        rw [this]; omega
      have hsh : (u : Int) / 16 = (q : Int) := by omega
      have hix := idx_hex r hr16
      have HQ := hide hq
      have HR := hide hr
      clear hq hr
      go_wp2
      have h16 := hH.out.2
      have hl6 : l.length ≤ 6 := by
        rcases Nat.lt_or_ge l.length 7 with h | h
        · omega
        · have e : 8 - l.length = 1 := by omega
          rw [e] at h16
          omega
      obtain ⟨m, hm⟩ : ∃ m, 8 - l.length = m + 1 := ⟨7 - l.length, by omega⟩
      obtain ⟨j', rfl⟩ : ∃ j', j = j' + 1 := ⟨j - 1, by have := HJL.out; omega⟩
      have hm' : 8 - (hexC r :: l).length = m := by simp; omega
      refine ⟨⟨q, j', hexC r :: l, rfl, by first | rfl | simp, by have := HJL.out; simp; omega, by simp; omega, by have := HQ.out; omega, set_g0 HG.out (by simp) _, HB.out.set HJL.out _, ?_⟩, by have := HQ.out; simp [intOf]; omega⟩
      refine hide ⟨?_, ?_⟩
      · rw [hm', hH.out.1, hm, hxN, if_neg (by omega), HQ.out, HR.out]
        simp
      · rw [hm']
        rw [hm, Nat.pow_succ] at h16
        have := HQ.out
        omega
    · have hix := idx_hex u (by omega)
      have hsl := sl65 w.heap.size j (by omega)
      obtain ⟨n, hn⟩ : ∃ n, 65 - j = n := ⟨_, rfl⟩
      have hnl : (hexC u :: l).length = n := by have := HJL.out; simp; omega
      have hcv := conv_buf (HB.out.set HJL.out (hexC u)) (j := j) (by have := HJL.out; simp; omega) n
      rw [hnl] at hcv
      rw [hn] at hsl
      have HE := hide (show hxN 8 u0 = hexC u :: l from by
        obtain ⟨m, hm⟩ : ∃ m, 8 - l.length = m + 1 := ⟨7 - l.length, by omega⟩
        rw [hH.out.1, hm, hxN, if_pos (by omega)]
        rfl)
      clear hn hnl
      go_wp2
      go_ret2
      exact ⟨⟨_, by rw [HE.out]; rfl⟩, set_g0 HG.out (by simp) _⟩
set_option maxHeartbeats 1000000 in
theorem fui_16 (u0 : Nat) (hu : u0 < 4294967296) (w : World) (hD : DebAt w) (hw : 21 ≤ w.heap.size) :
    Calls Tryz.prog 89 #[.int .u64 u0, .int .i64 16] w fun e w' => e = .returned (.string (bs (hxN 8 u0))) ∧ w.grownBy w' none := by
  have FB := hide (fb_16 u0 hu w hD hw)
  clear hu hD hw
  go_enter Tryz.func89, Tryz.ntmps89
  go_wp2_with fail
  refine FB.out.mono ?_
  rintro e w1 ⟨d, rfl, hg⟩
  go_wp2_with fail
  go_ret
  exact ⟨rfl, hg⟩
theorem fu_16 (u0 : Nat) (hu : u0 < 4294967296) (w : World) (hD : DebAt w) (hw : 21 ≤ w.heap.size) :
    Calls Tryz.prog 65 #[.int .u64 u0, .int .i64 16] w fun e w' => e = .returned (.string (bs (hxN 8 u0))) ∧ w.grownBy w' none := by
  have FB := hide (fui_16 u0 hu w hD hw)
  clear hu hD hw
  go_enter Tryz.func65, Tryz.ntmps65
  go_wp2_with fail
  refine FB.out.mono ?_
  rintro e w1 ⟨rfl, hg⟩
  go_wp2_with fail
  go_ret
  exact ⟨rfl, hg⟩
/- Eight digits: noughts ahead of those that there are. -/
theorem hexF_zero (n : Nat) : hexF 0 n = List.replicate n 48 := by
  induction n with
  | zero => rfl
  | succ n ih =>
    rw [hexF, ih, List.replicate_succ]
    simp [dgH, hexC]
theorem hexF_snoc (u : Nat) : ∀ n, hexF (u : Int) (n + 1) = hexF ((u / 16 : Nat) : Int) n ++ [hexC (u % 16)] := by
  intro n
  induction n with
  | zero => simp [hexF, dgH]
  | succ n ih =>
    rw [hexF, ih]
    have e : dgH (u : Int) (n + 1) = dgH ((u / 16 : Nat) : Int) n := by
      simp only [dgH, Int.toNat_natCast, Nat.pow_succ]
      rw [Nat.mul_comm, ← Nat.div_div_eq_div_mul]
    rw [e]
    rfl
theorem hex_pad : ∀ (n u : Nat), u < 16 ^ n → 1 ≤ n → List.replicate (n - (hxN n u).length) 48 ++ hxN n u = hexF (u : Int) n := by
  intro n
  induction n with
  | zero => intro u _ h; omega
  | succ n ih =>
    intro u hu _
    rw [hexF_snoc]
    by_cases h : u < 16
    · rw [hxN, if_pos h, show u / 16 = 0 by omega, show u % 16 = u by omega]
      have := hexF_zero n
      simp only [Int.ofNat_zero] at *
      simp [this]
    · have hn : 1 ≤ n := by
        rcases Nat.lt_or_ge n 1 with h1 | h1
        · obtain rfl : n = 0 := by omega
          simp at hu; omega
        · exact h1
      have hl := hxN_len n (u / 16)
      rw [hxN, if_neg h, ← ih (u / 16) (by rw [Nat.pow_succ] at hu; omega) hn]
      simp
theorem hexL_pad (u : Nat) (h : u < 4294967296) : List.replicate (8 - (hxN 8 u).length) 48 ++ hxN 8 u = hexL (u : Int) := hex_pad 8 u h (by decide)
end Go.Proofs.YtjeogojgabfbiaaGreatDoor.Asm
