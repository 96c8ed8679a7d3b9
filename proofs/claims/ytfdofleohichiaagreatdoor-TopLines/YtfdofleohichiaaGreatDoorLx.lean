/-
  What Go's own strconv.ParseUint answers of a text in base 16, 32 bits.
  What Go's own strconv.FormatUint answers of a word in base 16.
  A strings.Builder of package asm's own: what is written into it, and its text.
  Package asm: a word's eight digits behind '#'; a line that is a word's, of an instruction or not.
  Package asm: lines of words.
  Package asm: words of lines, read.
  Package asm's lists: lists of words as arguments, copied, held against each other; all tables.
-/
import Derived.Test.YtfdofleohichiaaGreatDoorShelf2
import Derived.Test.YtfdofleohichiaaGreatDoorCd1
import Derived.Lib.ConvBytes
import Derived.Test.YtfdofleohichiaaGreatDoorAx
import Derived.Shelf.Strings.Builder1
import Derived.Test.YtfdofleohichiaaGreatDoorCw
import Derived.OwnWalk
import Derived.Test.YtfdofleohichiaaGreatDoorAlaid
import Derived.Laws.AppendOwnNone
import Derived.ProofKit
import Derived.OpenShut
import Derived.ChangeOld
import Derived.ChangeMaps5
import Derived.Deep.Slices
import Derived.Below
namespace Go.Proofs.YtfdofleohichiaaGreatDoor.Asm
open Go.RowKit Go.Maps Go.Proofs.YtfdofleohichiaaGreatDoor.Bits Go.Proofs.YtfdofleohichiaaGreatDoor.Gw Go.Proofs.YtfdofleohichiaaGreatDoor.Risc Go.Proofs.YtfdofleohichiaaGreatDoor.Tx Go.Proofs.YtfdofleohichiaaGreatDoor.Mp
set_option linter.unusedVariables false
set_option linter.unusedSimpArgs false
set_option maxRecDepth 100000

def isHx (c : UInt8) : Bool := (decide (48 ≤ c.toNat) && decide (c.toNat ≤ 57)) || (decide (97 ≤ c.toNat) && decide (c.toNat ≤ 102))
def hxd (c : UInt8) : Nat := if c.toNat ≤ 57 then c.toNat - 48 else c.toNat - 87
def hxVal (l : List UInt8) : Nat := l.foldl (fun n c => 16 * n + hxd c) 0
def hexOk (t : List UInt8) : Bool := t.all isHx && decide (t.length ≤ 8)
theorem hxVal_snoc (l : List UInt8) (c : UInt8) : hxVal (l ++ [c]) = 16 * hxVal l + hxd c := by simp [hxVal, List.foldl_append]
theorem hxd_lt {c : UInt8} (h : isHx c = true) : hxd c < 16 := by
  simp [isHx] at h
  unfold hxd
  split <;> omega
theorem hxVal_lt : ∀ (k : Nat) (l : List UInt8), l.length = k → l.all isHx = true → hxVal l < 16 ^ k := by
  intro k
  induction k with
  | zero => intro l h _; cases l with | nil => simp [hxVal] | cons c l => simp at h
  | succ k ih =>
    intro l h ha
    obtain ⟨m, c, rfl⟩ : ∃ m c, l = m ++ [c] := by
      have : l ≠ [] := by intro e; rw [e] at h; simp at h
      exact ⟨l.dropLast, l.getLast this, (List.dropLast_concat_getLast this).symm⟩
    simp at h ha
    have h1 := ih m h (by simpa using ha.1)
    have h2 := hxd_lt ha.2
    rw [hxVal_snoc, Nat.pow_succ]
    omega
/- What is known after k bytes. -/
def HxS (t : List UInt8) (k : Nat) (a : Int) : Prop := 0 ≤ a ∧ a ≤ 4294967295 ∧ (hexOk t = true → a = (hxVal (t.take k) : Int))
theorem hx_step {t : List UInt8} {k : Nat} (hk : k < t.length) {a d : Int} (h : HxS t k a) (d0 : 0 ≤ d) (hd : isHx t[k] = true → d = (hxd t[k] : Int)) (hb : a * 16 + d ≤ 4294967295) : HxS t (k + 1) (a * 16 + d) := by
  refine ⟨by have := h.1; omega, hb, fun ho => ?_⟩
  have e := h.2.2 ho
  have hx : isHx t[k] = true := by
    simp only [hexOk, Bool.and_eq_true] at ho
    exact List.all_eq_true.1 ho.1 _ (List.getElem_mem hk)
  rw [List.take_succ_eq_append_getElem hk, hxVal_snoc, hd hx, e]
  omega
theorem hx_range {t : List UInt8} {k : Nat} (hk : k < t.length) {a d : Int} (h : HxS t k a) (hd : isHx t[k] = true → d = (hxd t[k] : Int)) (hb : ¬ a * 16 + d ≤ 4294967295) : hexOk t = false := by
  cases ho : hexOk t with
  | false => rfl
  | true =>
    exfalso
    have e := h.2.2 ho
    simp only [hexOk, Bool.and_eq_true, decide_eq_true_eq] at ho
    have hx := List.all_eq_true.1 ho.1 _ (List.getElem_mem hk)
    have h1 := hxVal_lt (k + 1) (t.take (k + 1)) (by rw [List.length_take]; omega) (List.all_eq_true.2 fun c hc => List.all_eq_true.1 ho.1 c (List.mem_of_mem_take hc))
    rw [List.take_succ_eq_append_getElem hk, hxVal_snoc] at h1
    have h2 : 16 ^ (k + 1) ≤ 16 ^ 8 := Nat.pow_le_pow_right (by decide) (by omega)
    have e8 : (16 : Nat) ^ 8 = 4294967296 := by decide
    rw [hd hx, e] at hb
    omega
theorem hx_bad {t : List UInt8} {k : Nat} (hk : k < t.length) (h : isHx t[k] = false) : hexOk t = false := by
  cases ho : hexOk t with
  | false => rfl
  | true =>
    simp only [hexOk, Bool.and_eq_true] at ho
    rw [List.all_eq_true.1 ho.1 _ (List.getElem_mem hk)] at h
    cases h
def PuR (t : List UInt8) (v : Int) (ev : Value) : Prop := 0 ≤ v ∧ v ≤ 4294967295 ∧ (ev = .nilIface ∨ ev = .iface 147 (.int .i64 2) ∨ ev = .iface 147 (.int .i64 1)) ∧ (hexOk t = true → v = (hxVal t : Int))
set_option maxHeartbeats 8000000 in
theorem pui_any (t : List UInt8) (hne : t ≠ []) (hmax : t.length ≤ 1000000) (w : World) :
    Calls Tryz.prog 63 #[.string (bs t), .int .i64 16, .int .i64 32] w fun e w' => ∃ v ev, e = .returned (.tuple #[.int .u64 v, ev]) ∧ w' = Lib.bytesWorld w 5 (bs t) ∧ PuR t v ev := by
  have hemp : (bs t).toList.isEmpty = false := by
    rw [← decide_eq_emptyBytes]
    exact decide_eq_false (fun h => hne (by have := congrArg (fun z : ByteArray => z.data.toList) h; simpa [bs] using this))
  have hcv := Lib.run_convert_string_bytes (P := Tryz.prog) w 9 50 5 (bs t) (u := .string) Tryz.underlying9 Tryz.underlying50 Tryz.underlying5
  have hB : ∀ j, j < (bs t).size → (Lib.bytesWorld w 5 (bs t)).cell? ⟨w.heap.size, j, none⟩ = some (.int .u8 ((bs t).data.toList.getD j 0).toNat) := fun j hj => Lib.bytesWorld_cell w 5 (bs t) j hj
  obtain ⟨W1, hW1⟩ : ∃ W1, W1 = Lib.bytesWorld w 5 (bs t) := ⟨_, rfl⟩
  rw [← hW1] at hcv hB ⊢
  clear hW1
  have hsz := bs_size t
  rw [hsz] at hcv
  have hmv : IntKind.u64.wrap (IntKind.u64.wrap 4294967296 - 1) = 4294967295 := by
    rw [IntKind.wrap_u64, IntKind.wrap_u64]
    decide
  go_enter Tryz.func63, Tryz.ntmps63
  go_wp2
  go_loop [12, 13, 101] (fun vu vn vi => ∃ (k : Nat) (a : Int), vu = .bool false ∧ vn = .int .u64 a ∧ vi = .int .i64 k ∧ k ≤ t.length ∧ Hid (HxS t k a))
    (fun _ _ vi => t.length - (intOf vi).toNat)
  case atStart => exact ⟨0, 0, rfl, rfl, rfl, by omega, ⟨by decide, by decide, fun _ => rfl⟩⟩
  case round =>
    obtain ⟨k, a, rfl, rfl, rfl, hk, hh⟩ := hrel
    have a0 : 0 ≤ a := hh.out.1
    have a1 : a ≤ 4294967295 := hh.out.2.1
    by_cases hkn : k < t.length
    · have hc := hB k (by rw [hsz]; exact hkn)
      have hget : (bs t).data.toList.getD k 0 = t[k] := by simp [bs, List.getD_eq_getElem?_getD, hkn]
      rw [hget] at hc
      have HST := hide (fun d d0 hd hb => hx_step hkn (a := a) (d := d) hh.out d0 hd hb)
      have HRG := hide (fun d hd hb => hx_range hkn (a := a) (d := d) hh.out hd hb)
      have HBD := hide (hx_bad hkn)
      clear hB hget
      generalize t[k] = c at *
      have hc256 : c.toNat < 256 := c.toNat_lt
      by_cases hdig : 48 ≤ c.toNat ∧ c.toNat ≤ 57
      · obtain ⟨hd0, hd1⟩ := hdig
        have hdd : isHx c = true → ((c.toNat : Int) - 48) = (hxd c : Int) := fun _ => by unfold hxd; rw [if_pos hd1]; omega
        by_cases hov : a * 16 + ((c.toNat : Int) - 48) ≤ 4294967295
        · have HN := hide (HST.out _ (by omega) hdd hov)
          clear hdd
          go_wp2
          refine ⟨⟨k + 1, a * 16 + ((c.toNat : Int) - 48), rfl, (by first | rfl | (congr 1; omega)), (by first | rfl | (congr 1; omega)), by omega, HN⟩, by simp [intOf]; omega⟩
        · have HN := hide (HRG.out _ hdd hov)
          clear hdd
          go_wp2
          go_ret2
          exact ⟨_, _, rfl, rfl, by decide, by decide, Or.inr (Or.inr rfl), fun h => by rw [HN.out] at h; cases h⟩
      · have hv0 := bits_lo_u8 .or (c.toNat : Int) 32
        have hv1 := bits_hi_u8 .or (c.toNat : Int) 32
        have hu0 := bits_lo_u8 .or 95 32
        have hu1 := bits_hi_u8 .or 95 32
        have hlow : Hid (isHx c = true → bits .or .u8 (c.toNat : Int) 32 = (c.toNat : Int)) := hide (fun h => by
          have : c.toNat = 97 ∨ c.toNat = 98 ∨ c.toNat = 99 ∨ c.toNat = 100 ∨ c.toNat = 101 ∨ c.toNat = 102 := by simp [isHx] at h; omega
          rcases this with e | e | e | e | e | e <;> rw [e] <;> decide)
        have hdd : Hid (∀ l : Int, bits .or .u8 (c.toNat : Int) 32 = l → isHx c = true → l - 97 + 10 = (hxd c : Int)) := hide (fun l hl h => by
          have e := hlow.out h
          have : 97 ≤ c.toNat ∧ c.toNat ≤ 102 := by simp [isHx] at h; omega
          rw [← hl, e]
          unfold hxd
          rw [if_neg (by omega)]
          omega)
        have hin : Hid (isHx c = true → 97 ≤ bits .or .u8 (c.toNat : Int) 32 ∧ bits .or .u8 (c.toNat : Int) 32 ≤ 102) := hide (fun h => by
          have e := hlow.out h
          have : 97 ≤ c.toNat ∧ c.toNat ≤ 102 := by simp [isHx] at h; omega
          rw [e]; omega)
        have LW := hide (fun W => Tryz.internal_strconv_lower (c.toNat : Int) W)
        have hu : c.toNat = 95 → bits .or .u8 (c.toNat : Int) 32 = 127 := fun e => by rw [e]; decide
        generalize hl : bits .or .u8 (c.toNat : Int) 32 = l at *
        replace hdd := hide (hdd.out l rfl)
        have hndig : ¬ ((48 : Int) ≤ c.toNat ∧ (c.toNat : Int) ≤ 57) := by omega
        clear hl hlow
        have HU := hide hu
        clear hu hu0 hu1
        by_cases hlz : 97 ≤ l ∧ l ≤ 122
        · obtain ⟨l0, l1⟩ := hlz
          have hn95 : ¬ (c.toNat : Int) = 95 := fun e => by have := HU.out (by omega); omega
          by_cases hd16 : l ≤ 102
          · by_cases hov : a * 16 + (l - 97 + 10) ≤ 4294967295
            · have HN := hide (HST.out _ (by omega) hdd.out hov)
              go_wp2_with (go_at_call 99; refine (LW.out _).mono ?_; rintro e w' ⟨rfl, rfl⟩)
              all_goals exact ⟨⟨k + 1, a * 16 + (l - 97 + 10), rfl, (by first | rfl | (congr 1; omega)), (by first | rfl | (congr 1; omega)), by omega, HN⟩, by simp [intOf]; omega⟩
            · have HN := hide (HRG.out _ hdd.out hov)
              go_wp2_with (go_at_call 99; refine (LW.out _).mono ?_; rintro e w' ⟨rfl, rfl⟩)
              all_goals go_ret2
              all_goals exact ⟨_, _, rfl, rfl, by decide, by decide, Or.inr (Or.inr rfl), fun h => by rw [HN.out] at h; cases h⟩
          · have HN := hide (HBD.out (by cases hx : isHx c with
              | false => rfl
              | true => have := hin.out hx; omega))
            go_wp2_with (go_at_call 99; refine (LW.out _).mono ?_; rintro e w' ⟨rfl, rfl⟩)
            all_goals go_ret2
            all_goals exact ⟨_, _, rfl, rfl, by decide, by decide, Or.inr (Or.inl rfl), fun h => by rw [HN.out] at h; cases h⟩
        · have HN := hide (HBD.out (by cases hx : isHx c with
            | false => rfl
            | true => have := hin.out hx; omega))
          by_cases h95 : c.toNat = 95
          · have LW5 := hide (fun W => Tryz.internal_strconv_lower 95 W)
            have e95 : bits .or .u8 95 32 = 127 := by decide
            rw [h95] at hc
            clear h95 hlz hv0 hv1 hdig hndig
            go_wp2_with (go_at_call 99; refine (LW5.out _).mono ?_; rintro e w' ⟨rfl, rfl⟩)
            all_goals go_ret2
            all_goals exact ⟨_, _, rfl, rfl, by decide, by decide, Or.inr (Or.inl rfl), fun h => by rw [HN.out] at h; cases h⟩
          · have hn95 : ¬ (c.toNat : Int) = 95 := by omega
            go_wp2_with (go_at_call 99; refine (LW.out _).mono ?_; rintro e w' ⟨rfl, rfl⟩)
            all_goals go_ret2
            all_goals exact ⟨_, _, rfl, rfl, by decide, by decide, Or.inr (Or.inl rfl), fun h => by rw [HN.out] at h; cases h⟩
    · obtain rfl : k = t.length := by omega
      have HN := hh.out.2.2
      rw [List.take_length] at HN
      have HN2 := hide HN
      clear HN hh
      go_wp2
      go_ret2
      exact ⟨a, _, rfl, rfl, a0, a1, Or.inl rfl, HN2.out⟩
end Go.Proofs.YtfdofleohichiaaGreatDoor.Asm
namespace Go.Proofs.YtfdofleohichiaaGreatDoor.Asm
open Go.RowKit Go.Maps Go.Proofs.YtfdofleohichiaaGreatDoor.Bits Go.Proofs.YtfdofleohichiaaGreatDoor.Gw Go.Proofs.YtfdofleohichiaaGreatDoor.Risc Go.Proofs.YtfdofleohichiaaGreatDoor.Tx Go.Proofs.YtfdofleohichiaaGreatDoor.Mp
set_option linter.unusedVariables false
set_option linter.unusedSimpArgs false
set_option maxRecDepth 100000

def DebAt (w : World) : Prop := w.cell? ⟨18, 15, none⟩ = some (.int .u8 4)
set_option maxHeartbeats 1000000 in
theorem tz64_16 (w : World) (h : DebAt w) : Calls Tryz.prog 163 #[.int .u64 16] w fun e w' => e = .returned (.int .i64 4) ∧ w' = w := by
  unfold DebAt at h
  have h1 : IntKind.u64.wrap (-16) = 18446744073709551600 := by decide
  have h2 : bits .and .u64 16 18446744073709551600 = 16 := by decide
  have h3 : IntKind.u64.wrap (4573923408821661840) = 4573923408821661840 := by decide
  go_enter Tryz.func163, Tryz.ntmps163
  go_wp2
  go_ret
  exact ⟨rfl, rfl⟩
theorem tz_16 (w : World) (h : DebAt w) : Calls Tryz.prog 153 #[.int .u64 16] w fun e w' => e = .returned (.int .i64 4) ∧ w' = w := by
  go_enter Tryz.func153, Tryz.ntmps153
  go_wp2_with (go_at_call 163; refine (tz64_16 _ h).mono ?_; rintro e w1 ⟨rfl, rfl⟩)
  go_ret
  exact ⟨rfl, rfl⟩
theorem pow2_16 (w : World) : Calls Tryz.prog 152 #[.int .i64 16] w fun e w' => e = .returned (.bool true) ∧ w' = w := by
  have h2 : bits .and .i64 16 15 = 0 := by decide
  go_enter Tryz.func152, Tryz.ntmps152
  go_wp2
  go_ret
  exact ⟨rfl, rfl⟩
/- Hexadecimal digits, without leading noughts. -/
def hxN : Nat → Nat → List UInt8
  | 0, _ => []
  | k + 1, u => if u < 16 then [hexC u] else hxN k (u / 16) ++ [hexC (u % 16)]
theorem hxN_len : ∀ k u, (hxN k u).length ≤ k
  | 0, u => by simp [hxN]
  | k + 1, u => by
    have := hxN_len k (u / 16)
    rw [hxN]
    split
    · simp
    · simp; omega
def byt (l : List UInt8) : List Value := l.map fun c => Value.int .u8 (c.toNat : Int)
def rowA (l : List UInt8) : Array Value := (List.replicate (65 - l.length) (Value.int .u8 0) ++ byt l).toArray
def BufA (W : World) (b : Nat) (l : List UInt8) : Prop := W.heap[b]? = some (.cells (rowA l) 196 (0, 0))
theorem rowA_set {l : List UInt8} {j : Nat} (hj : j + 1 + l.length = 65) (c : UInt8) : (rowA l).setIfInBounds j (.int .u8 (c.toNat : Int)) = rowA (c :: l) := by
  unfold rowA byt
  have e1 : 65 - l.length = j + 1 := by omega
  have e2 : 65 - (c :: l).length = j := by simp; omega
  rw [e1, e2, List.replicate_succ']
  simp [List.append_assoc]
theorem BufA.cell {W : World} {b : Nat} {l : List UInt8} (h : BufA W b l) (i : Nat) : W.cell? ⟨b, i, none⟩ = (rowA l)[i]? := cell_of_row _ _ _ _ _ _ h
theorem BufA.frozen {W : World} {b : Nat} {l : List UInt8} (h : BufA W b l) (i : Nat) : W.frozen? ⟨b, i, none⟩ = false := frozen_of_row _ _ _ _ _ h
theorem BufA.set {W : World} {b : Nat} {l : List UInt8} (h : BufA W b l) {j : Nat} (hj : j + 1 + l.length = 65) (c : UInt8) : BufA (W.setCell ⟨b, j, none⟩ (.int .u8 (c.toNat : Int))) b (c :: l) := by
  have := heap_setCell_same _ _ j _ _ (.int .u8 (c.toNat : Int)) h
  rw [rowA_set hj] at this
  exact this
theorem idx_hex (r : Nat) (h : r < 16) (W : World) : (Instr.index 9 (.string ⟨#[48, 49, 50, 51, 52, 53, 54, 55, 56, 57, 97, 98, 99, 100, 101, 102, 103, 104, 105, 106, 107, 108, 109, 110, 111, 112, 113, 114, 115, 116, 117, 118, 119, 120, 121, 122]⟩) (.int .u64 r)).run Tryz.prog W = .ok (.int .u8 ((hexC r).toNat : Int)) W := by
  have : r = 0 ∨ r = 1 ∨ r = 2 ∨ r = 3 ∨ r = 4 ∨ r = 5 ∨ r = 6 ∨ r = 7 ∨ r = 8 ∨ r = 9 ∨ r = 10 ∨ r = 11 ∨ r = 12 ∨ r = 13 ∨ r = 14 ∨ r = 15 := by omega
  rcases this with h | h | h | h | h | h | h | h | h | h | h | h | h | h | h | h <;> subst h <;> rfl
theorem conv_buf {W : World} {b : Nat} {l : List UInt8} (h : BufA W b l) {j : Nat} (hj : j + l.length = 65) (cap : Nat) : (convert 50 9 (.slice (some ⟨b, j, none⟩) l.length cap)).run Tryz.prog W = .ok (.string (bs l)) W := by
  refine run_convert_bytes_back (P := Tryz.prog) W 50 9 5 ⟨b, j, none⟩ cap l Tryz.underlying50 Tryz.underlying5 Tryz.underlying9 (fun i hi => ?_)
  simp only [Addr.add_lit]
  rw [h.cell]
  unfold rowA byt
  simp only [List.getElem?_toArray]
  rw [List.getElem?_append_right (by simp; omega)]
  simp
  have e : j + i - (65 - l.length) = i := by omega
  rw [e, List.getElem?_eq_getElem hi]
  simp
theorem and15 (z : Int) (h0 : 0 ≤ z) (h1 : z < 18446744073709551616) : bits .and .u64 z 15 = z % 16 := by go_bits2
theorem sl65 (b j : Nat) (hj : j < 65) (W : World) : (Instr.sliceAt 196 (.pointer (some ⟨b, 0, none⟩)) (some (.int .i64 j)) none none).run Tryz.prog W = .ok (.slice (some ⟨b, j, none⟩) (65 - j) (65 - j)) W := by
  have hl : Tryz.prog.arrayLen 196 = 65 := by kernel_rfl
  have he : Tryz.prog.elem 196 = 5 := by kernel_rfl
  have hs : (sizeOf 5).run Tryz.prog W = .ok 1 W := by kernel_rfl
  rw [run_sliceAt_array_l (P := Tryz.prog) W 196 ⟨b, 0, none⟩ (by kernel_rfl) .i64 (j : Int) (by omega) (by rw [hl]; omega), he, hs, hl]
  simp only [Result.andThen_ok, slicedAt, Int.toNat_natCast, Nat.mul_one]
  rw [if_neg (by omega)]
  simp [Addr.add]
  exact fun h => h.symm
theorem set_g0 {w W : World} (h : w.grownBy W none) {a : Addr} (ha : w.heap.size ≤ a.block) (v : Value) : w.grownBy (W.setCell a v) none :=
  ⟨h.os, h.tape, h.output, by simpa [World.setCell] using h.size, fun k hk _ => (Below.heap_setCell _ _ _ _ (by omega)).trans (h.block k hk (by simp))⟩
set_option maxHeartbeats 4000000 in
theorem fb_16 (u0 : Nat) (hu : u0 < 4294967296) (w : World) (hD : DebAt w) (hw : 21 ≤ w.heap.size) :
    Calls Tryz.prog 114 #[.slice none 0 0, .int .u64 u0, .int .i64 16, .bool false, .bool false] w fun e w' => ∃ d, e = .returned (.tuple #[d, .string (bs (hxN 8 u0))]) ∧ w.grownBy w' none := by
  have HD : Hid (∀ o, DebAt (w.alloc o)) := hide (fun o => (gcell (World.grownBy_alloc w o none) _ _ (by omega)).trans hD)
  have h16 : (u0 : Int) < 4294967296 := by omega
  have HU := hide hu
  clear hD hw hu
  go_enter Tryz.func114, Tryz.ntmps114
  go_wp2_with (first
    | (go_at_call 152; refine (pow2_16 _).mono ?_; rintro e w1 ⟨rfl, rfl⟩)
    | (go_at_call 153; refine (tz_16 _ (HD.out _)).mono ?_; rintro e w1 ⟨rfl, rfl⟩))
  go_loopw [1, 13] (fun vu vi W => ∃ (u j : Nat) (l : List UInt8), vu = .int .u64 u ∧ vi = .int .i64 ((j : Int) + 1) ∧ j + 1 + l.length = 65 ∧ l.length ≤ 7 ∧ u < 4294967296 ∧ w.grownBy W none ∧ BufA W w.heap.size l ∧ Hid (hxN 8 u0 = hxN (8 - l.length) u ++ l ∧ u < 16 ^ (8 - l.length)))
    (fun vu _ _ => (intOf vu).toNat)
  case atStart =>
    refine ⟨u0, 64, [], rfl, rfl, rfl, by decide, HU.out, World.grownBy_alloc _ _ _, ?_, ?_⟩
    · exact heap_alloc_new _ _
    · exact ⟨by simp, HU.out⟩
  case round =>
    obtain ⟨u, j, l, rfl, rfl, hjl, hl7, hu32, hg, hB, hH⟩ := hrel
    have HG := hide hg
    have HB := hide hB
    have hfz := hB.frozen j
    have hcl : wr.cell? ⟨w.heap.size, j, none⟩ = some (.int .u8 0) := by
      rw [hB.cell, rowA]
      simp only [List.getElem?_toArray]
      rw [List.getElem?_append_left (by simp; omega), List.getElem?_replicate_of_lt (by omega)]
    have hj64 : (j : Int) ≤ 64 := by omega
    have i32 : (u : Int) < 4294967296 := by omega
    have H32 := hide hu32
    have HJL := hide hjl
    clear hg hB hu32 hjl
    by_cases hge : 16 ≤ (u : Int)
    · obtain ⟨r, hr⟩ : ∃ r, u % 16 = r := ⟨_, rfl⟩
      obtain ⟨q, hq⟩ : ∃ q, u / 16 = q := ⟨_, rfl⟩
      have hr16 : r < 16 := by omega
      have hand : bits .and .u64 (u : Int) 15 = (r : Int) := by
        have := and15 (u : Int) (by omega) (by omega)
        rw [this]; omega
      have hsh : (u : Int) / 16 = (q : Int) := by omega
      have hix := idx_hex r hr16
      have HQ := hide hq
      have HR := hide hr
      clear hq hr
      go_wp2
      have h16 := hH.out.2
      have hl6 : l.length ≤ 6 := by
        rcases Nat.lt_or_ge l.length 7 with h | h
        · omega
        · have e : 8 - l.length = 1 := by omega
          rw [e] at h16
          omega
      obtain ⟨m, hm⟩ : ∃ m, 8 - l.length = m + 1 := ⟨7 - l.length, by omega⟩
      obtain ⟨j', rfl⟩ : ∃ j', j = j' + 1 := ⟨j - 1, by have := HJL.out; omega⟩
      have hm' : 8 - (hexC r :: l).length = m := by simp; omega
      refine ⟨⟨q, j', hexC r :: l, rfl, by first | rfl | simp, by have := HJL.out; simp; omega, by simp; omega, by have := HQ.out; omega, set_g0 HG.out (by simp) _, HB.out.set HJL.out _, ?_⟩, by have := HQ.out; simp [intOf]; omega⟩
      refine hide ⟨?_, ?_⟩
      · rw [hm', hH.out.1, hm, hxN, if_neg (by omega), HQ.out, HR.out]
        simp
      · rw [hm']
        rw [hm, Nat.pow_succ] at h16
        have := HQ.out
        omega
    · have hix := idx_hex u (by omega)
      have hsl := sl65 w.heap.size j (by omega)
      obtain ⟨n, hn⟩ : ∃ n, 65 - j = n := ⟨_, rfl⟩
      have hnl : (hexC u :: l).length = n := by have := HJL.out; simp; omega
      have hcv := conv_buf (HB.out.set HJL.out (hexC u)) (j := j) (by have := HJL.out; simp; omega) n
      rw [hnl] at hcv
      rw [hn] at hsl
      have HE := hide (show hxN 8 u0 = hexC u :: l from by
        obtain ⟨m, hm⟩ : ∃ m, 8 - l.length = m + 1 := ⟨7 - l.length, by omega⟩
        rw [hH.out.1, hm, hxN, if_pos (by omega)]
        rfl)
      clear hn hnl
      go_wp2
      go_ret2
      exact ⟨⟨_, by rw [HE.out]; rfl⟩, set_g0 HG.out (by simp) _⟩
set_option maxHeartbeats 1000000 in
theorem fui_16 (u0 : Nat) (hu : u0 < 4294967296) (w : World) (hD : DebAt w) (hw : 21 ≤ w.heap.size) :
    Calls Tryz.prog 70 #[.int .u64 u0, .int .i64 16] w fun e w' => e = .returned (.string (bs (hxN 8 u0))) ∧ w.grownBy w' none := by
  have FB := hide (fb_16 u0 hu w hD hw)
  clear hu hD hw
  go_enter Tryz.func70, Tryz.ntmps70
  go_wp2_with fail
  refine FB.out.mono ?_
  rintro e w1 ⟨d, rfl, hg⟩
  go_wp2_with fail
  go_ret
  exact ⟨rfl, hg⟩
theorem fu_16 (u0 : Nat) (hu : u0 < 4294967296) (w : World) (hD : DebAt w) (hw : 21 ≤ w.heap.size) :
    Calls Tryz.prog 40 #[.int .u64 u0, .int .i64 16] w fun e w' => e = .returned (.string (bs (hxN 8 u0))) ∧ w.grownBy w' none := by
  have FB := hide (fui_16 u0 hu w hD hw)
  clear hu hD hw
  go_enter Tryz.func40, Tryz.ntmps40
  go_wp2_with fail
  refine FB.out.mono ?_
  rintro e w1 ⟨rfl, hg⟩
  go_wp2_with fail
  go_ret
  exact ⟨rfl, hg⟩
/- Eight digits: noughts ahead of those that there are. -/
theorem hexF_zero (n : Nat) : hexF 0 n = List.replicate n 48 := by
  induction n with
  | zero => rfl
  | succ n ih =>
    rw [hexF, ih, List.replicate_succ]
    simp [dgH, hexC]
theorem hexF_snoc (u : Nat) : ∀ n, hexF (u : Int) (n + 1) = hexF ((u / 16 : Nat) : Int) n ++ [hexC (u % 16)] := by
  intro n
  induction n with
  | zero => simp [hexF, dgH]
  | succ n ih =>
    rw [hexF, ih]
    have e : dgH (u : Int) (n + 1) = dgH ((u / 16 : Nat) : Int) n := by
      simp only [dgH, Int.toNat_natCast, Nat.pow_succ]
      rw [Nat.mul_comm, ← Nat.div_div_eq_div_mul]
    rw [e]
    rfl
theorem hex_pad : ∀ (n u : Nat), u < 16 ^ n → 1 ≤ n → List.replicate (n - (hxN n u).length) 48 ++ hxN n u = hexF (u : Int) n := by
  intro n
  induction n with
  | zero => intro u _ h; omega
  | succ n ih =>
    intro u hu _
    rw [hexF_snoc]
    by_cases h : u < 16
    · rw [hxN, if_pos h, show u / 16 = 0 by omega, show u % 16 = u by omega]
      have := hexF_zero n
      simp only [Int.ofNat_zero] at *
      simp [this]
    · have hn : 1 ≤ n := by
        rcases Nat.lt_or_ge n 1 with h1 | h1
        · obtain rfl : n = 0 := by omega
          simp at hu; omega
        · exact h1
      have hl := hxN_len n (u / 16)
      rw [hxN, if_neg h, ← ih (u / 16) (by rw [Nat.pow_succ] at hu; omega) hn]
      simp
theorem hexL_pad (u : Nat) (h : u < 4294967296) : List.replicate (8 - (hxN 8 u).length) 48 ++ hxN 8 u = hexL (u : Int) := hex_pad 8 u h (by decide)
end Go.Proofs.YtfdofleohichiaaGreatDoor.Asm
namespace Go.Proofs.YtfdofleohichiaaGreatDoor.Asm
open Go.RowKit Go.Maps Go.Shelf Go.Proofs.YtfdofleohichiaaGreatDoor.Bits Go.Proofs.YtfdofleohichiaaGreatDoor.Gw Go.Proofs.YtfdofleohichiaaGreatDoor.Risc Go.Proofs.YtfdofleohichiaaGreatDoor.Tx Go.Proofs.YtfdofleohichiaaGreatDoor.Mp
set_option linter.unusedVariables false
set_option linter.unusedSimpArgs false
set_option maxRecDepth 100000

def renB : Ren := ⟨fun n => if n = 167 then 20 else Tryz.lays156_ren.f n, Tryz.lays156_ren.t, Tryz.lays156_ren.g⟩
theorem laysB : Lays.n167 Tryz.prog renB := {
  mixed := by kernel_rfl
  f167 := Tryz.func20.trans (congrArg some (by kernel_rfl))
  f240 := Tryz.func42.trans (congrArg some (by kernel_rfl))
  f276 := Tryz.func74.trans (congrArg some (by kernel_rfl))
  t0 := Tryz.lays156.t0
  a0 := Tryz.lays156.a0
  z0 := Tryz.lays156.z0
  v0 := Tryz.lays156.v0
  t4 := Tryz.lays156.t4
  a4 := Tryz.lays156.a4
  z4 := Tryz.lays156.z4
  v4 := Tryz.lays156.v4
  t5 := Tryz.Builder_Extra_156.t5
  a5 := Tryz.Builder_Extra_156.a5
  z5 := Tryz.Builder_Extra_156.z5
  v5 := Tryz.Builder_Extra_156.v5
  t9 := Tryz.lays156.t9
  a9 := Tryz.lays156.a9
  z9 := Tryz.lays156.z9
  v9 := Tryz.lays156.v9
  t20 := Tryz.lays156.t20
  a20 := Tryz.lays156.a20
  z20 := Tryz.lays156.z20
  v20 := Tryz.lays156.v20
  t37 := Tryz.lays156.t37
  a37 := Tryz.lays156.a37
  z37 := Tryz.lays156.z37
  v37 := Tryz.lays156.v37
  t70 := Tryz.lays156.t70
  a70 := Tryz.lays156.a70
  z70 := Tryz.lays156.z70
  v70 := Tryz.lays156.v70
  t72 := Tryz.lays156.t72
  a72 := Tryz.lays156.a72
  z72 := Tryz.lays156.z72
  v72 := Tryz.lays156.v72
  t75 := Tryz.lays156.t75
  a75 := Tryz.lays156.a75
  z75 := Tryz.lays156.z75
  v75 := Tryz.lays156.v75
  t164 := Tryz.lays156.t164
  a164 := Tryz.lays156.a164
  z164 := Tryz.lays156.z164
  v164 := Tryz.lays156.v164 }
theorem extraB : Builder.Extra Tryz.prog renB := { Tryz.Builder_Extra_156 with }
/- A builder in block b, that holds the text l. -/
def Bd (B b : Nat) (l : List UInt8) (w : World) : Prop := Lib.IsBuilder 52 5 B b (Lib.byteCells l) w
theorem Bd.kept {B b : Nat} {l : List UInt8} {w w' : World} (h : Bd B b l w) (hg : w.grownBy w' none) : Bd B b l w' := by
  have k : ∀ p, Lib.BuilderAt 52 5 B b p (Lib.byteCells l) w → Lib.BuilderAt 52 5 B b p (Lib.byteCells l) w' := fun p ⟨h1, v, h2, h3, h4⟩ =>
    ⟨h1, v, (hg.block b (Array.getElem?_eq_some_iff.1 h2).1 (by simp)).trans h2, h3.kept hg (by cases hv : v.ownBlock <;> simp), h4⟩
  exact h.elim (fun x => Or.inl (k _ x)) (fun x => Or.inr (k _ x))
theorem str_byte (t : List UInt8) : Lib.strCells (bs t) = Lib.byteCells t := rfl
theorem byte_app (l t : List UInt8) : Lib.byteCells l ++ Lib.byteCells t = Lib.byteCells (l ++ t) := by simp [Lib.byteCells]
theorem bws_any {B b : Nat} {l : List UInt8} (t : List UInt8) {w : World} (h : Bd B b l w) (hl : l.length + t.length ≤ 100000000) (hB : B ≤ w.heap.size) :
    Calls Tryz.prog 19 #[.pointer (some ⟨b, 0, none⟩), .string (bs t)] w fun e w' => ∃ v, e = .returned v ∧ Bd B b (l ++ t) w' ∧ Below B w w' := by
  refine (Any.Builder_WriteString { Tryz.lays156 with } Tryz.Builder_Extra_156 B b (Lib.byteCells l) (bs t) w h (by rw [Lib.byteCells_length, bs_size]; omega) hB).mono ?_
  rintro e w' ⟨rfl, h1, h2⟩
  refine ⟨_, rfl, ?_, h2⟩
  rw [str_byte, byte_app] at h1
  exact Or.inr h1
theorem bwb_any {B b : Nat} {l : List UInt8} (c : UInt8) {w : World} (h : Bd B b l w) (hl : l.length ≤ 100000000) (hB : B ≤ w.heap.size) :
    Calls Tryz.prog 20 #[.pointer (some ⟨b, 0, none⟩), .int .u8 (c.toNat : Int)] w fun e w' => ∃ v, e = .returned v ∧ Bd B b (l ++ [c]) w' ∧ Below B w w' := by
  refine (Any.Builder_WriteByte laysB extraB B b (Lib.byteCells l) (c.toNat : Int) w h (by rw [Lib.byteCells_length]; omega) hB).mono ?_
  rintro e w' ⟨rfl, h1, h2⟩
  refine ⟨_, rfl, ?_, h2⟩
  have : Lib.byteCells l ++ [Value.int .u8 (c.toNat : Int)] = Lib.byteCells (l ++ [c]) := by simp [Lib.byteCells]
  rw [this] at h1
  exact Or.inr h1
theorem bst_any {B b : Nat} {l : List UInt8} {w : World} (h : Bd B b l w) (hB : B ≤ w.heap.size) :
    Calls Tryz.prog 21 #[.pointer (some ⟨b, 0, none⟩)] w fun e w' => e = .returned (.string (bs l)) ∧ Below B w w' := Tryz.Builder_String_any B b l w h hB
theorem Bd.fresh (w : World) : Bd w.heap.size w.heap.size [] (w.alloc (.cells #[.pointer none, .slice none 0 0] 52)) := Lib.fresh_isBuilder _ _ _
end Go.Proofs.YtfdofleohichiaaGreatDoor.Asm
namespace Go.Proofs.YtfdofleohichiaaGreatDoor.Asm
open Go.RowKit Go.Maps Go.Proofs.YtfdofleohichiaaGreatDoor.Bits Go.Proofs.YtfdofleohichiaaGreatDoor.Gw Go.Proofs.YtfdofleohichiaaGreatDoor.Risc Go.Proofs.YtfdofleohichiaaGreatDoor.Tx Go.Proofs.YtfdofleohichiaaGreatDoor.Mp
set_option linter.unusedVariables false
set_option linter.unusedSimpArgs false
set_option maxRecDepth 100000

structure AH (w : World) : Prop where
  al : AL w
  deb : DebAt w
theorem AH.size {w : World} (A : AH w) : 21 ≤ w.heap.size := A.al.nms.size
theorem AH.g {w w' : World} (A : AH w) (h : w.grownBy w' none) : AH w' := ⟨A.al.g h, (gcell h _ _ (by have := A.size; omega)).trans A.deb⟩
def bareL (x : Int) : List UInt8 := 35 :: hexL x
/- The line of a word, whatever it is. -/
def lnT (x : Int) : List UInt8 := if decR x = true then lineX x else bareL x
theorem hexC_facts (d : Nat) (h : d < 16) : isHx (hexC d) = true ∧ hxd (hexC d) = d := by
  have : d = 0 ∨ d = 1 ∨ d = 2 ∨ d = 3 ∨ d = 4 ∨ d = 5 ∨ d = 6 ∨ d = 7 ∨ d = 8 ∨ d = 9 ∨ d = 10 ∨ d = 11 ∨ d = 12 ∨ d = 13 ∨ d = 14 ∨ d = 15 := by omega
  rcases this with h | h | h | h | h | h | h | h | h | h | h | h | h | h | h | h <;> subst h <;> decide
theorem hexF_facts : ∀ (n u : Nat), u < 16 ^ n → (hexF (u : Int) n).all isHx = true ∧ hxVal (hexF (u : Int) n) = u := by
  intro n
  induction n with
  | zero => intro u h; simp at h; subst h; decide
  | succ n ih =>
    intro u h
    obtain ⟨a, b⟩ := ih (u / 16) (by rw [Nat.pow_succ] at h; omega)
    obtain ⟨c, d⟩ := hexC_facts (u % 16) (by omega)
    rw [hexF_snoc]
    refine ⟨by simp only [List.all_append, a, List.all_cons, c, List.all_nil, Bool.and_self], ?_⟩
    rw [hxVal_snoc, b, d]
    omega
theorem hexL_facts {x : Int} (h : U32 x) : hexOk (hexL x) = true ∧ (hxVal (hexL x) : Int) = x ∧ (hexL x).length = 8 := by
  obtain ⟨u, rfl⟩ := Int.eq_ofNat_of_zero_le h.1
  have hu : u < 16 ^ 8 := by have := h.2; have e : (16 : Nat) ^ 8 = 4294967296 := by decide
                             omega
  obtain ⟨a, b⟩ := hexF_facts 8 u hu
  have l : (hexL (u : Int)).length = 8 := hex_len _ 8
  refine ⟨?_, by rw [hexL, b], l⟩
  simp only [hexOk, Bool.and_eq_true, decide_eq_true_eq]
  exact ⟨a, by omega⟩
theorem hexL_inj {x y : Int} (hx : U32 x) (hy : U32 y) (h : hexL x = hexL y) : x = y := by
  rw [← (hexL_facts hx).2.1, ← (hexL_facts hy).2.1, h]
theorem line_head {x : Int} (h : decR x = true) : (lineX x).head? ≠ some 35 ∧ (lineX x) ≠ [] := by
  have hg : goodR (uF x) (uU x) (uV x) (uA x) (uB x) (uC x) (uOp x) (uIm x) = true := by
    simp only [decR, Bool.and_eq_true] at h; exact h.1
  have hs := line_split (u := uU x) (v := uV x) (a := uA x) (b := uB x) (c := uC x) (op := uOp x) (im := uIm x) (good_form hg)
  have hl : lineX x = lineI (uF x) (uU x) (uV x) (uA x) (uB x) (uC x) (uOp x) (uIm x) := rfl
  have hk := List.all_eq_true.1 (show (tab 4).all (fun k => match nmK k with | [] => false | c :: _ => !Nat.beq c.toNat 35) = true by kernel_rfl) _ (good_mem hg)
  rw [hl, hs]
  cases hn : nmK (kdI (uF x) (uU x) (uV x) (uA x) (uOp x)) with
  | nil => rw [hn] at hk; cases hk
  | cons c r =>
    rw [hn] at hk
    refine ⟨?_, by simp⟩
    simp
    rintro rfl
    cases hk
theorem lnT_inj {x y : Int} (hx : U32 x) (hy : U32 y) (h : lnT x = lnT y) : x = y := by
  unfold lnT at h
  by_cases h1 : decR x = true <;> by_cases h2 : decR y = true
  · rw [if_pos h1, if_pos h2] at h; exact line_inj h1 h2 h
  · rw [if_pos h1, if_neg h2] at h; exact absurd (by rw [h]; rfl) (line_head h1).1
  · rw [if_neg h1, if_pos h2] at h; exact absurd (by rw [← h]; rfl) (line_head h2).1
  · rw [if_neg h1, if_neg h2] at h
    exact hexL_inj hx hy (by simpa [bareL] using h)
theorem rep48 : ∀ c, Lib.repeatL [48] c = List.replicate c 48
  | 0 => rfl
  | c + 1 => by rw [Lib.repeatL, rep48 c, List.replicate_succ]; rfl
theorem rep_any (c : Nat) (hc : c ≤ 100) (w : World) : Calls Tryz.prog 41 #[.string ⟨#[48]⟩, .int .i64 c] w fun e w' => e = .returned (.string (bs (List.replicate c 48))) ∧ w.grownBy w' none := by
  refine (Tryz.strings_Repeat ⟨#[48]⟩ c w (by omega) (by show 1 * c ≤ _; omega)).mono ?_
  rintro e w' ⟨rfl, hb⟩
  refine ⟨?_, below_g hb⟩
  have := rep48 c
  show Ending.returned (.string ⟨(Lib.repeatL [48] c).toArray⟩) = _
  rw [this]
  rfl
set_option maxHeartbeats 1000000 in
theorem bare_any (x : Int) (x0 : 0 ≤ x) (x1 : x < 4294967296) (w : World) (A : AH w) : Calls Tryz.prog 18 #[.int .u32 x] w fun e w' => e = .returned (.string (bs (bareL x))) ∧ w.grownBy w' none := by
  obtain ⟨u, rfl⟩ := Int.eq_ofNat_of_zero_le x0
  have FB := hide (fu_16 u (by omega) w A.deb A.size)
  have hp := hexL_pad u (by omega)
  have hn8 := hxN_len 8 u
  obtain ⟨l, hl⟩ : ∃ l, hxN 8 u = l := ⟨_, rfl⟩
  rw [hl] at FB hp hn8
  obtain ⟨m, hm⟩ : ∃ m, 8 - l.length = m := ⟨_, rfl⟩
  rw [hm] at hp
  have hnm : (8 : Int) - (l.length : Int) = (m : Int) := by omega
  have RP := hide (rep_any m (by omega))
  obtain ⟨z, hz⟩ : ∃ z, List.replicate m (48 : UInt8) = z := ⟨_, rfl⟩
  have hzl : z.length ≤ 8 := by rw [← hz]; simp; omega
  rw [hz] at RP hp
  obtain ⟨y, hy⟩ : ∃ y, [35] ++ z = y := ⟨_, rfl⟩
  have hyl : y.length ≤ 9 := by rw [← hy]; simp; omega
  obtain ⟨k, hk⟩ : ∃ k, y ++ l = k := ⟨_, rfl⟩
  have ha1 := add_bs [35] z (by simp; omega)
  have ha2 := add_bs y l (by omega)
  rw [hy] at ha1
  rw [hk] at ha2
  have hb : (⟨#[35]⟩ : ByteArray) = bs [35] := rfl
  have hw64 : IntKind.u64.wrap (u : Int) = (u : Int) := by rw [IntKind.wrap_u64]; omega
  have hsz := bs_size l
  have HP := hide (show k = bareL (u : Int) from by rw [bareL, ← hp, ← hk, ← hy]; rfl)
  clear A hp hl hm x0 x1 hz hy hk
  go_enter Tryz.func18, Tryz.ntmps18
  go_wp2_with fail
  refine FB.out.mono ?_
  rintro e w1 ⟨rfl, hg1⟩
  go_wp2_with fail
  refine (RP.out _).mono ?_
  rintro e w2 ⟨rfl, hg2⟩
  go_wp2_with fail
  go_ret
  exact ⟨by rw [← HP.out]; rfl, grown_trans hg1 hg2⟩
set_option maxHeartbeats 1000000 in
theorem pui_nil (w : World) : Calls Tryz.prog 63 #[.string (bs []), .int .i64 16, .int .i64 32] w fun e w' => e = .returned (.tuple #[.int .u64 0, .iface 147 (.int .i64 2)]) ∧ w' = w := by
  have hemp : (bs []).toList.isEmpty = true := by rw [bs_list]; rfl
  go_enter Tryz.func63, Tryz.ntmps63
  go_wp2
  go_ret2
  exact ⟨rfl, rfl⟩
theorem bytesW_g2 (w : World) (e : TypeId) (t : ByteArray) : w.grownBy (Lib.bytesWorld w e t) none := bytesW_g w e t
theorem pui_all (t : List UInt8) (hmax : t.length ≤ 1000000) (w : World) :
    Calls Tryz.prog 63 #[.string (bs t), .int .i64 16, .int .i64 32] w fun e w' => ∃ v ev, e = .returned (.tuple #[.int .u64 v, ev]) ∧ w.grownBy w' none ∧ PuR t v ev := by
  by_cases h : t = []
  · subst h
    exact (pui_nil w).mono fun e w' ⟨he, hw⟩ => ⟨0, _, he, hw ▸ grown_refl _, by decide, by decide, Or.inr (Or.inl rfl), fun _ => rfl⟩
  · exact (pui_any t h hmax w).mono fun e w' ⟨v, ev, he, hw, hr⟩ => ⟨v, ev, he, hw ▸ bytesW_g _ _ _, hr⟩
theorem toe_any (t : List UInt8) (ht : t.length ≤ 1000000) (w : World) (A : AL w) (c : Int) (hc : c = 2 ∨ c = 1) :
    Calls Tryz.prog 64 #[.string ⟨#[80, 97, 114, 115, 101, 85, 105, 110, 116]⟩, .string (bs t), .int .i64 16, .int .i64 32, .iface 147 (.int .i64 c)] w fun e w' => ∃ ev, e = .returned ev ∧ w.grownBy w' none := by
  have hsz : (bs t).size ≤ 281474976710656 := by rw [bs_size]; omega
  rcases hc with rfl | rfl
  · obtain ⟨ev, h1, h2⟩ := A.errS
    exact (Tryz.strconv_toError_syntax _ (bs t) 16 32 ev w hsz h1 h2).mono fun e w' ⟨N, he, _, _, hb⟩ => ⟨_, he, below_g hb⟩
  · obtain ⟨ev, h1, h2⟩ := A.errR
    exact (Tryz.strconv_toError_range _ (bs t) 16 32 ev w hsz h1 h2).mono fun e w' ⟨N, he, _, _, hb⟩ => ⟨_, he, below_g hb⟩
set_option maxHeartbeats 1000000 in
theorem pu_any (t : List UInt8) (hmax : t.length ≤ 1000000) (w : World) (A : AL w) :
    Calls Tryz.prog 35 #[.string (bs t), .int .i64 16, .int .i64 32] w fun e w' => ∃ v ev, e = .returned (.tuple #[.int .u64 v, ev]) ∧ w.grownBy w' none ∧ 0 ≤ v ∧ v ≤ 4294967295 ∧ (hexOk t = true → v = (hxVal t : Int)) := by
  have PI := hide (pui_all t hmax w)
  have HA := hide A
  have TS := hide (fun W (h : w.grownBy W none) => toe_any t hmax W (A.g h) 2 (Or.inl rfl))
  have TR := hide (fun W (h : w.grownBy W none) => toe_any t hmax W (A.g h) 1 (Or.inr rfl))
  clear A
  go_enter Tryz.func35, Tryz.ntmps35
  go_wp2_with fail
  refine PI.out.mono ?_
  rintro e w1 ⟨v, ev, rfl, hg1, v0, v1, hev, hok⟩
  have HO := hide hok
  clear hok
  rcases hev with rfl | rfl | rfl
  · go_wp2_with fail
    go_ret2
    exact ⟨v, _, rfl, hg1, v0, v1, HO.out⟩
  · go_wp2_with fail
    refine (TS.out _ hg1).mono ?_
    rintro e w2 ⟨ev, rfl, hg2⟩
    go_wp2_with fail
    go_ret2
    exact ⟨v, ev, rfl, grown_trans hg1 hg2, v0, v1, HO.out⟩
  · go_wp2_with fail
    refine (TR.out _ hg1).mono ?_
    rintro e w2 ⟨ev, rfl, hg2⟩
    go_wp2_with fail
    go_ret2
    exact ⟨v, ev, rfl, grown_trans hg1 hg2, v0, v1, HO.out⟩
def WbR (s : List UInt8) (v : Int) (ok : Bool) : Prop := U32 v ∧ (ok = true → lnT v = s) ∧ ((∃ x, U32 x ∧ lnT x = s) → ok = true)
theorem wb_word {s : List UInt8} {v : Int} {ok : Bool} (h : WdR s v ok) (hh : Lib.hasPrefix s [35] = false) : WbR s v ok := by
  refine ⟨h.1, fun e => ?_, fun ⟨x, hx, hl⟩ => h.2.2 ?_⟩
  · obtain ⟨a, b⟩ := h.2.1 e
    rw [lnT, if_pos a]; exact b
  · unfold lnT at hl
    by_cases hd : decR x = true
    · rw [if_pos hd] at hl; exact ⟨x, hd, hl⟩
    · rw [if_neg hd] at hl
      rw [← hl] at hh
      simp [bareL, Lib.hasPrefix] at hh
theorem wb_bare {s : List UInt8} {v : Int} (hv : U32 v) (hh : Lib.hasPrefix s [35] = true) (hok : hexOk (s.drop 1) = true → v = (hxVal (s.drop 1) : Int)) : WbR s v (!decR v && (bareL v == s)) := by
  refine ⟨hv, fun e => ?_, fun ⟨x, hx, hl⟩ => ?_⟩
  · simp at e
    rw [lnT, if_neg (by simp [e.1])]; exact e.2
  · unfold lnT at hl
    by_cases hd : decR x = true
    · rw [if_pos hd] at hl
      have := (line_head hd).1
      rw [hl] at this
      cases s with
      | nil => simp [Lib.hasPrefix] at hh
      | cons c r => simp [Lib.hasPrefix] at hh; subst hh; simp at this
    · rw [if_neg hd] at hl
      obtain ⟨a, b, _⟩ := hexL_facts hx
      have e : s.drop 1 = hexL x := by rw [← hl]; rfl
      rw [e, b] at hok
      have := hok a
      subst this
      simp [hd, hl]
theorem has35_any (t : List UInt8) (w : World) : Calls Tryz.prog 33 #[.string (bs t), .string ⟨#[35]⟩] w fun e w' => e = .returned (.bool (Lib.hasPrefix t [35])) ∧ w' = w := by
  have hd : (bs t).data.toList = t := by simp [bs]
  have := Tryz.strings_HasPrefix (bs t) ⟨#[35]⟩ w
  rw [hd] at this
  exact this
theorem ext_drop (s : List UInt8) (i : Nat) : (bs s).extract i s.length = bs (s.drop i) := by rw [bs_ext, List.take_of_length_le (by simp)]
set_option maxHeartbeats 2000000 in
theorem wob_any (s : List UInt8) (hs : s.length ≤ 200000) (w : World) (A : AH w) {b : Nat} (M : MapL Tryz.prog 82 w b ((tab 4).map enK)) :
    Calls Tryz.prog 15 #[.map (some b), .string (bs s)] w fun e w' => ∃ v ok, e = .returned (.tuple #[.int .u32 v, .bool ok]) ∧ w.grownBy w' none ∧ WbR s v ok := by
  have HA := hide A
  cases hh : Lib.hasPrefix s [35]
  · have WC := hide (word_code s hs w A.al M)
    have HS := has35_any s w
    rw [hh] at HS
    have HH := hide HS
    have HW := hide (fun v ok h => wb_word (s := s) (v := v) (ok := ok) h hh)
    clear A M HS hh
    go_enter Tryz.func15, Tryz.ntmps15
    go_wp2_with fail
    refine HH.out.mono ?_
    rintro e w1 ⟨rfl, rfl⟩
    go_wp2_with fail
    refine WC.out.mono ?_
    rintro e w2 ⟨v, ok, rfl, hg2, hW⟩
    have HV := hide (HW.out v ok hW)
    clear hW
    go_wp2_with fail
    go_ret2
    exact ⟨v, ok, rfl, hg2, HV.out⟩
  · have HS := has35_any s w
    rw [hh] at HS
    have HH := hide HS
    have hs1 : 1 ≤ s.length := by cases s with | nil => simp [Lib.hasPrefix] at hh | cons c r => simp
    obtain ⟨t, ht⟩ : ∃ t, s.drop 1 = t := ⟨_, rfl⟩
    have htl : t.length ≤ 200000 := by rw [← ht]; simp; omega
    have PU := hide (fun W (h : w.grownBy W none) => pu_any t (by omega) W (A.al.g h))
    have HWB := hide (fun v hv hok => wb_bare (s := s) (v := v) hv hh hok)
    rw [ht] at HWB
    have hsl : (bs s).extract 1 s.length = bs t := by rw [← ht]; exact ext_drop s 1
    have hsz := bs_size s
    clear A M HS hh ht
    go_enter Tryz.func15, Tryz.ntmps15
    go_wp2_with fail
    refine HH.out.mono ?_
    rintro e w1 ⟨rfl, rfl⟩
    go_wp2_with fail
    refine (PU.out _ (grown_refl _)).mono ?_
    rintro e w2 ⟨v, ev, rfl, hg2, v0, v1, hok⟩
    have HWV := hide (HWB.out v ⟨v0, by omega⟩ hok)
    clear hok
    have hw32 : IntKind.u32.wrap v = v := by rw [IntKind.wrap_u32]; omega
    have DC := decode_any v w2 (HA.out.g hg2).al.risc v0 (by omega)
    rw [dec_eq] at DC
    by_cases hd : decR v = true
    · rw [if_pos hd] at DC
      have HD := hide DC
      rw [hd] at HWV
      clear DC hd
      go_wp2_with fail
      refine HD.out.mono ?_
      rintro e w3 ⟨rfl, q, rfl⟩
      go_wp2_with fail
      go_ret2
      exact ⟨v, false, rfl, grown_trans (grown_trans hg2 (gr_g _ _)) (World.grownBy_alloc _ _ _), by simpa using HWV.out⟩
    · rw [if_neg hd] at DC
      have HD := hide DC
      have hdf : decR v = false := by simpa using hd
      rw [hdf] at HWV
      have BA := hide (fun W (h : w1.grownBy W none) => bare_any v v0 (by omega) W (HA.out.g h))
      clear DC hd hdf
      by_cases hbs : bareL v = s
      · have hne : ((bs (bareL v)).toList == (bs s).toList) = true := by rw [test_bs]; simpa using hbs
        go_wp2_with fail
        refine HD.out.mono ?_
        rintro e w3 ⟨rfl, q, rfl⟩
        go_wp2_with fail
        refine (BA.out _ (grown_trans (grown_trans hg2 (gr_g _ _)) (World.grownBy_alloc _ _ _))).mono ?_
        rintro e w4 ⟨rfl, hg4⟩
        go_wp2_with fail
        go_ret2
        exact ⟨v, true, rfl, grown_trans (grown_trans (grown_trans hg2 (gr_g _ _)) (World.grownBy_alloc _ _ _)) hg4, by simpa [hbs] using HWV.out⟩
      · have hne : ((bs (bareL v)).toList == (bs s).toList) = false := by rw [test_bs]; simpa using hbs
        go_wp2_with fail
        refine HD.out.mono ?_
        rintro e w3 ⟨rfl, q, rfl⟩
        go_wp2_with fail
        refine (BA.out _ (grown_trans (grown_trans hg2 (gr_g _ _)) (World.grownBy_alloc _ _ _))).mono ?_
        rintro e w4 ⟨rfl, hg4⟩
        go_wp2_with fail
        go_ret2
        exact ⟨v, false, rfl, grown_trans (grown_trans (grown_trans hg2 (gr_g _ _)) (World.grownBy_alloc _ _ _)) hg4, by have hbf : (bareL v == s) = false := by simpa using hbs
                                                                                                                         simpa [hbf] using HWV.out⟩
end Go.Proofs.YtfdofleohichiaaGreatDoor.Asm
namespace Go.Proofs.YtfdofleohichiaaGreatDoor.Asm
open Go.RowKit Go.Maps Go.Proofs.YtfdofleohichiaaGreatDoor.Bits Go.Proofs.YtfdofleohichiaaGreatDoor.Gw Go.Proofs.YtfdofleohichiaaGreatDoor.Risc Go.Proofs.YtfdofleohichiaaGreatDoor.Tx Go.Proofs.YtfdofleohichiaaGreatDoor.Mp
set_option linter.unusedVariables false
set_option linter.unusedSimpArgs false
set_option maxRecDepth 100000

/- Words that lie at an address. -/
structure Sr (w : World) (ao : Option Addr) (xs : List Int) : Prop where
  at_ : ∀ j x, xs[j]? = some x → ∃ a, ao = some a ∧ w.cell? (a.add j) = some (.int .u32 x)
  rng : ∀ x ∈ xs, U32 x
theorem cell_g {w w' : World} (hg : w.grownBy w' none) {a : Addr} {v : Value} (h : w.cell? a = some v) : w'.cell? a = some v := by
  rw [World.cell?_of_block (hg.block a.block (block_lt_of_cell h) (by simp))]
  exact h
theorem Sr.g {w w' : World} {ao : Option Addr} {xs : List Int} (h : Sr w ao xs) (hg : w.grownBy w' none) : Sr w' ao xs :=
  ⟨fun j x hx => by obtain ⟨a, h1, h2⟩ := h.at_ j x hx; exact ⟨a, h1, cell_g hg h2⟩, h.rng⟩
def linesT (xs : List Int) : List UInt8 := xs.flatMap fun x => lnT x ++ [10]
theorem linesT_snoc (xs : List Int) (x : Int) : linesT (xs ++ [x]) = linesT xs ++ lnT x ++ [10] := by simp [linesT]
theorem hexL_len (x : Int) : (hexL x).length = 8 := hex_len x 8
theorem lnT_len (x : Int) : (lnT x).length ≤ 80 := by
  unfold lnT
  split
  · rename_i h
    have hg : goodR (uF x) (uU x) (uV x) (uA x) (uB x) (uC x) (uOp x) (uIm x) = true := by
      simp only [decR, Bool.and_eq_true] at h; exact h.1
    have hs := line_split (u := uU x) (v := uV x) (a := uA x) (b := uB x) (c := uC x) (op := uOp x) (im := uIm x) (good_form hg)
    have hl : lineX x = lineI (uF x) (uU x) (uV x) (uA x) (uB x) (uC x) (uOp x) (uIm x) := rfl
    have h1 := nmK_len (kdI (uF x) (uU x) (uV x) (uA x) (uOp x))
    have h2 := opn_len (uF x) (uU x) (uA x) (uB x) (uC x) (uIm x)
    rw [hl, hs]
    simp; omega
  · have := hexL_len x
    simp [bareL]; omega
theorem linesT_len (xs : List Int) : (linesT xs).length ≤ 81 * xs.length := by
  induction xs with
  | nil => simp [linesT]
  | cons x xs ih =>
    have := lnT_len x
    have e : linesT (x :: xs) = lnT x ++ [10] ++ linesT xs := rfl
    rw [e]
    simp; omega
theorem below_gg {w W W' : World} (h : w.grownBy W none) (k : Below w.heap.size W W') : w.grownBy W' none :=
  ⟨k.os.trans h.os, k.tape.trans h.tape, k.output.trans h.output, Nat.le_trans h.size k.size, fun j hj _ => (k.block j hj).trans (h.block j hj (by simp))⟩
set_option maxHeartbeats 4000000 in
theorem clines_any {ao : Option Addr} {xs : List Int} (cp : Nat) (hn : xs.length ≤ 20000) (w : World) (A : AH w) (S : Sr w ao xs) :
    Calls Tryz.prog 6 #[.slice ao xs.length cp] w fun e w' => e = .returned (.string (bs (linesT xs))) ∧ w.grownBy w' none := by
  have HA := hide A
  have HS := hide S
  clear A S
  go_enter Tryz.func6, Tryz.ntmps6
  go_wp2_with fail
  refine (names_any w HA.out.al.nms).mono ?_
  rintro e wN ⟨b, rfl, hgN, hbN, M⟩
  have HM := hide M
  clear M
  go_wp2
  go_loopw [12] (fun i W => ∃ k : Nat, k ≤ xs.length ∧ i = .int .i64 k ∧ wN.grownBy W none ∧ Bd wN.heap.size wN.heap.size (linesT (xs.take k)) W) (fun i _ => xs.length - (intOf i).toNat)
  case atStart => exact ⟨0, by omega, rfl, World.grownBy_alloc _ _ _, Bd.fresh wN⟩
  case round =>
    obtain ⟨k, hk, rfl, hG, hB⟩ := hrel
    have HG := hide hG
    have HB := hide hB
    clear hG hB
    by_cases hkl : k < xs.length
    · obtain ⟨x, hx⟩ : ∃ x, xs[k]? = some x := ⟨_, List.getElem?_eq_getElem hkl⟩
      have hxr := HS.out.rng x (List.mem_of_getElem? hx)
      obtain ⟨a, rfl, hcell⟩ := (HS.out.g (grown_trans hgN HG.out)).at_ k x hx
      have htk : linesT (xs.take (k + 1)) = linesT (xs.take k) ++ lnT x ++ [10] := by
        rw [List.take_add_one, hx]
        exact linesT_snoc _ _
      have HTK := hide htk
      have hll := linesT_len (xs.take k)
      have hlk : (xs.take k).length ≤ 20000 := by simp; omega
      have hlx := lnT_len x
      have x0 := hxr.1
      have x1 := hxr.2
      clear hx htk hxr
      have LC := line_code x x0 x1 wr (HA.out.g (grown_trans hgN HG.out)).al (HM.out.kept HG.out (by simp))
      have HLN := hide (show lnT x = if decR x = true then lineX x else bareL x from rfl)
      by_cases hd : decR x = true
      · rw [if_pos hd] at LC HLN
        have HL := hide LC
        clear LC hd
        go_wp2_with fail
        refine HL.out.mono ?_
        rintro e w1 ⟨rfl, hg1⟩
        go_wp2_with fail
        refine (bws_any _ (HB.out.kept hg1) (by rw [← HLN.out]; omega) (Nat.le_trans HG.out.size hg1.size)).mono ?_
        rintro e w2 ⟨v2, rfl, hb2, hl2⟩
        have HB2 := hide hb2
        have HG2 := hide (below_gg (grown_trans HG.out hg1) hl2)
        clear hb2 hl2
        go_wp2_with fail
        refine (bwb_any 10 HB2.out (by rw [← HLN.out, List.length_append]; omega) HG2.out.size).mono ?_
        rintro e w3 ⟨v3, rfl, hb3, hl3⟩
        have HB3 := hide hb3
        have HG3 := hide (below_gg HG2.out hl3)
        clear hb3 hl3
        go_wp2
        go_roundw
        case rel => exact ⟨k + 1, by omega, by go_num, HG3.out, by rw [HTK.out, HLN.out]; exact HB3.out⟩
        case measure => simp [intOf]; omega
      · rw [if_neg hd] at LC HLN
        have HL := hide LC
        clear LC hd
        go_wp2_with fail
        refine HL.out.mono ?_
        rintro e w0 ⟨rfl, hg0⟩
        have HC := hide (bare_any x x0 x1 w0 (HA.out.g (grown_trans (grown_trans hgN HG.out) hg0)))
        go_wp2_with fail
        refine HC.out.mono ?_
        rintro e w1 ⟨rfl, hg01⟩
        have hg1 := grown_trans hg0 hg01
        go_wp2_with fail
        refine (bws_any _ (HB.out.kept hg1) (by rw [← HLN.out]; omega) (Nat.le_trans HG.out.size hg1.size)).mono ?_
        rintro e w2 ⟨v2, rfl, hb2, hl2⟩
        have HB2 := hide hb2
        have HG2 := hide (below_gg (grown_trans HG.out hg1) hl2)
        clear hb2 hl2
        go_wp2_with fail
        refine (bwb_any 10 HB2.out (by rw [← HLN.out, List.length_append]; omega) HG2.out.size).mono ?_
        rintro e w3 ⟨v3, rfl, hb3, hl3⟩
        have HB3 := hide hb3
        have HG3 := hide (below_gg HG2.out hl3)
        clear hb3 hl3
        go_wp2
        go_roundw
        case rel => exact ⟨k + 1, by omega, by go_num, HG3.out, by rw [HTK.out, HLN.out]; exact HB3.out⟩
        case measure => simp [intOf]; omega
    · have hk' : k = xs.length := by omega
      subst hk'
      have HB4 := hide (show Bd wN.heap.size wN.heap.size (linesT xs) wr by have := HB.out; rwa [List.take_length] at this)
      clear HB
      go_wp2_with fail
      refine (bst_any HB4.out HG.out.size).mono ?_
      rintro e w1 ⟨rfl, hl1⟩
      go_wp2
      go_ret
      exact ⟨rfl, grown_trans hgN (below_gg HG.out hl1)⟩
end Go.Proofs.YtfdofleohichiaaGreatDoor.Asm
namespace Go.Proofs.YtfdofleohichiaaGreatDoor.Asm
open Go.RowKit Go.Maps Go.Proofs.YtfdofleohichiaaGreatDoor.Bits Go.Proofs.YtfdofleohichiaaGreatDoor.Gw Go.Proofs.YtfdofleohichiaaGreatDoor.Risc Go.Proofs.YtfdofleohichiaaGreatDoor.Tx Go.Proofs.YtfdofleohichiaaGreatDoor.Mp
set_option linter.unusedVariables false
set_option linter.unusedSimpArgs false
set_option maxRecDepth 100000

theorem nm_no10 {k : K4} (h : k ∈ tab 4) : (10 : UInt8) ∉ nmK k := by
  have := List.all_eq_true.1 (show (tab 4).all (fun k => (nmK k).all fun c => !Nat.beq c.toNat 10) = true by kernel_rfl) k h
  intro hm
  have := List.all_eq_true.1 this 10 hm
  cases this
theorem line_no10 {x : Int} (h : decR x = true) : (10 : UInt8) ∉ lineX x := by
  have hg : goodR (uF x) (uU x) (uV x) (uA x) (uB x) (uC x) (uOp x) (uIm x) = true := by
    simp only [decR, Bool.and_eq_true] at h; exact h.1
  have hl : lineX x = lineI (uF x) (uU x) (uV x) (uA x) (uB x) (uC x) (uOp x) (uIm x) := rfl
  rw [hl, line_split (u := uU x) (v := uV x) (a := uA x) (b := uB x) (c := uC x) (op := uOp x) (im := uIm x) (good_form hg)]
  have R := good_rng hg
  have ra := R.a
  have rb := R.b
  have rc := R.c
  have q := hg
  have hf := good_form hg
  simp only [goodR, Bool.and_eq_true] at q
  have him : -100000000 ≤ uIm x ∧ uIm x ≤ 100000000 := by
    rcases hf with hf | hf | hf | hf
    · rw [hf] at q; simp at q; omega
    · have := R.f1 hf; omega
    · have := R.f2 hf; omega
    · exact R.f3 hf
  have A : (10 : UInt8) ∉ regI (uA x) := mem_reg (by omega) (by omega) (by decide) (by decide) (by decide)
  have B : (10 : UInt8) ∉ regI (uB x) := mem_reg (by omega) (by omega) (by decide) (by decide) (by decide)
  have C : (10 : UInt8) ∉ regI (uC x) := mem_reg (by omega) (by omega) (by decide) (by decide) (by decide)
  have I : (10 : UInt8) ∉ decI (uIm x) := mem_dec (by omega) (by omega) (by decide) (by decide)
  have N := nm_no10 (good_mem hg)
  have O : (10 : UInt8) ∉ opnI (uF x) (uU x) (uA x) (uB x) (uC x) (uIm x) := by
    unfold opnI
    split
    · split
      · exact I
      · exact C
    · split
      · simp [A, B, C]
      · simp [A, B, I]
  simp [N, O]
theorem lnT_no10 {x : Int} (h : U32 x) : (10 : UInt8) ∉ lnT x := by
  unfold lnT
  split
  · rename_i h; exact line_no10 h
  · have := (hexL_facts h).1
    simp only [hexOk, Bool.and_eq_true] at this
    intro hm
    rcases List.mem_cons.1 hm with hm | hm
    · cases hm
    · have := List.all_eq_true.1 this.1 10 hm
      cases this
theorem cut_no (t : List UInt8) (h : (10 : UInt8) ∉ t) : Lib.cut t [10] = (t, [], false) := by
  unfold Lib.cut
  rw [idx_no 10 [] t h, if_neg (by omega)]
theorem cut_yes (p r : List UInt8) (h : (10 : UInt8) ∉ p) : Lib.cut (p ++ 10 :: r) [10] = (p, r, true) := by
  have := lcut_at 10 [] p r h
  simpa using this
/- Does a text begin with a line? -/
def stl (t : List UInt8) : Prop := ∃ x r, U32 x ∧ t = lnT x ++ 10 :: r
/- A text: the lines of words, and what is no line. -/
structure Sp (s : List UInt8) (ys : List Int) (t : List UInt8) : Prop where
  eq : s = linesT ys ++ t
  rng : ∀ y ∈ ys, U32 y
  no : ¬ stl t
theorem stl_nil : ¬ stl [] := fun ⟨x, r, _, h⟩ => by simp at h
theorem line_eq {p p' r r' : List UInt8} (hp : (10 : UInt8) ∉ p) (hp' : (10 : UInt8) ∉ p') (h : p ++ 10 :: r = p' ++ 10 :: r') : p = p' ∧ r = r' := by
  have e := cut_yes p r hp
  rw [h, cut_yes p' r' hp'] at e
  simp only [Prod.mk.injEq] at e
  exact ⟨e.1.symm, e.2.1.symm⟩
theorem linesT_cons (x : Int) (xs : List Int) (t : List UInt8) : linesT (x :: xs) ++ t = lnT x ++ 10 :: (linesT xs ++ t) := by
  simp [linesT]
theorem Sp.uniq : ∀ {ys ys' : List Int} {s t t' : List UInt8}, Sp s ys t → Sp s ys' t' → ys = ys' ∧ t = t'
  | [], [], s, t, t', h, h' => ⟨rfl, by have a := h.eq; have b := h'.eq; rw [a] at b; simpa [linesT] using b⟩
  | [], y :: ys', s, t, t', h, h' => by
    have a := h.eq
    have b := h'.eq
    rw [linesT_cons] at b
    exact absurd ⟨y, _, h'.rng y (by simp), by rw [← b, a]; simp [linesT]⟩ h.no
  | y :: ys, [], s, t, t', h, h' => by
    have a := h.eq
    have b := h'.eq
    rw [linesT_cons] at a
    exact absurd ⟨y, _, h.rng y (by simp), by rw [← a, b]; simp [linesT]⟩ h'.no
  | y :: ys, y' :: ys', s, t, t', h, h' => by
    have a := h.eq
    have b := h'.eq
    rw [linesT_cons] at a b
    rw [a] at b
    obtain ⟨e1, e2⟩ := line_eq (lnT_no10 (h.rng y (by simp))) (lnT_no10 (h'.rng y' (by simp))) b
    obtain rfl := lnT_inj (h.rng y (by simp)) (h'.rng y' (by simp)) e1
    obtain ⟨e3, e4⟩ := Sp.uniq (s := linesT ys ++ t) ⟨rfl, fun z hz => h.rng z (by simp [hz]), h.no⟩ ⟨e2, fun z hz => h'.rng z (by simp [hz]), h'.no⟩
    exact ⟨by rw [e3], e4⟩
theorem Sp.ended {ys : List Int} (h : ∀ y ∈ ys, U32 y) : Sp (linesT ys) ys [] := ⟨by simp, h, stl_nil⟩
theorem no_end {t : List UInt8} (h : (10 : UInt8) ∉ t) : ¬ stl t := fun ⟨x, r, _, e⟩ => h (by rw [e]; simp)
theorem no_word {p r : List UInt8} {v : Int} (hp : (10 : UInt8) ∉ p) (h : WbR p v false) : ¬ stl (p ++ 10 :: r) := fun ⟨x, r', hx, e⟩ => by
  obtain ⟨e1, _⟩ := line_eq hp (lnT_no10 hx) e
  have := h.2.2 ⟨x, hx, e1.symm⟩
  cases this
theorem cut10_any (t : List UInt8) (hs : t.length ≤ 1000000) (w : World) (A : AL w) : Calls Tryz.prog 14 #[.string (bs t), .string ⟨#[10]⟩] w fun e w' => e = .returned (.tuple #[.string (bs (Lib.cut t [10]).1), .string (bs (Lib.cut t [10]).2.1), .bool (Lib.cut t [10]).2.2]) ∧ w.grownBy w' none := by
  obtain ⟨m, hm⟩ := A.maxl
  have hd : (bs t).data.toList = t := by simp [bs]
  refine (Tryz.strings_Cut (bs t) ⟨#[10]⟩ m w (by rw [bs_size]; omega) hm).mono ?_
  rintro e w' ⟨rfl, n, rfl⟩
  rw [hd]
  exact ⟨rfl, drewN_g _ _⟩
theorem cnt10_any (t : List UInt8) (w : World) : Calls Tryz.prog 12 #[.string (bs t), .string ⟨#[10]⟩] w fun e w' => e = .returned (.int .i64 (t.count 10 : Nat)) ∧ w' = w := by
  have hd : (bs t).data.toList = t := by simp [bs]
  have := Tryz.strings_Count_one (bs t) 10 w
  rw [hd] at this
  exact this
theorem infoU : (Tryz.prog.info? 44).map (fun i => (i.zero, i.size, i.bytes)) = some (some (.int .u32 0), 1, 4) := by kernel_rfl
theorem g_below {w w' : World} (h : w.grownBy w' none) : Below w.heap.size w w' := ⟨h.os, h.tape, h.output, h.size, fun k hk => h.block k hk (by simp)⟩
theorem bs_emp (t : List UInt8) : (bs t).toList.isEmpty = t.isEmpty := by rw [bs_list]
theorem own_base {w : World} {B B' : Nat} {e : TypeId} {n : Nat} {v : Value} {k : Nat} {xs : List Value} (h : w.ownsRow B e n v k xs) (hB : B' ≤ B) : w.ownsRow B' e n v k xs :=
  ⟨h.1, h.2.imp id fun ⟨g, c, cur, a, b, r⟩ => ⟨g, c, cur, a, Nat.le_trans hB b, r⟩⟩
theorem own_shape {w : World} {B : Nat} {e : TypeId} {k : Nat} {v : Value} {xs : List Value} (h : w.ownsRow B e 1 v k xs) : ∃ ao cp, v = .slice ao k cp := by
  rcases h.2 with ⟨rfl, rfl⟩ | ⟨g, c, cur, rfl, _⟩
  · exact ⟨_, _, rfl⟩
  · exact ⟨_, _, rfl⟩
theorem lines_ge (ys : List Int) : ys.length ≤ (linesT ys).length := by
  induction ys with
  | nil => simp
  | cons y ys ih => have := linesT_cons y ys []
                    rw [List.append_nil, List.append_nil] at this
                    rw [this]; simp; omega
theorem g_below_at {w w' : World} {B : Nat} (h : w.grownBy w' none) (hB : B ≤ w.heap.size) : Below B w w' := ⟨h.os, h.tape, h.output, h.size, fun k hk => h.block k (by omega) (by simp)⟩
theorem below_trans {B : Nat} {a b c : World} (h : Below B a b) (k : Below B b c) : Below B a c := ⟨k.os.trans h.os, k.tape.trans h.tape, k.output.trans h.output, Nat.le_trans h.size k.size, fun j hj => (k.block j hj).trans (h.block j hj)⟩
theorem cell_one_new' (w : World) (v : Value) (e : TypeId) : ∀ (j : Nat) (u : Value), [v][j]? = some u → (w.alloc (.cells #[v] e)).cell? ((⟨w.heap.size, 0, none⟩ : Addr).add j) = some u := by
  intro j u hj
  match j, hj with
  | 0, hj => simp at hj; subst hj; simp [Addr.add]
def sLen : Value → Nat | .string b => b.size | _ => 0
def wdU (x : Int) : Value := .int .u32 x
set_option maxHeartbeats 4000000 in
theorem cwords_any (s : List UInt8) (hs : s.length ≤ 200000) (hc : s.count 10 ≤ 65536) (w : World) (A : AH w) :
    Calls Tryz.prog 5 #[.string (bs s)] w fun e w' => ∃ ys t, Sp s ys t ∧ w.grownBy w' none ∧ ((t = [] ∧ ∃ v, e = .returned (.tuple #[v, .int .i64 0, .int .i64 0]) ∧ w'.ownsRow w.heap.size 44 1 v ys.length (ys.map wdU)) ∨ (t ≠ [] ∧ e = .returned (.tuple #[.slice none 0 0, .int .i64 (ys.length : Nat), .int .i64 60]))) := by
  have HA := hide A
  clear A
  have HC := hide (cnt10_any s w)
  generalize s.count 10 = n at HC hc
  have hcn : ¬ ((65536 : Int) < n) := by omega
  obtain ⟨i0, hi, hz0, hz1, hz2⟩ := info_parts infoU
  go_enter Tryz.func5, Tryz.ntmps5
  go_wp2_with fail
  refine HC.out.mono ?_
  rintro e w0 ⟨rfl, rfl⟩
  go_wp2_with fail
  refine (kinds_any w0 HA.out.al.nms).mono ?_
  rintro e wN ⟨b, rfl, hgN, hbN, M⟩
  have HM := hide M
  clear M
  go_wp2_with (at_make; refine wpList_make_own _ rfl _ _ _ rfl wN.heap.size 44 i0 (.int .u32 0) 1 Tryz.underlying22 hi hz0 hz1 .i64 .i64 _ n rfl rfl rfl ?b2 ?b3 ?b4 ?_)
  case b2 => rw [hz2]; omega
  case b3 => unfold maxLen; omega
  case b4 => exact Nat.le_refl _
  intro wM hown hgM
  have HO0 := hide hown
  clear hown
  go_wp2
  go_loopw [0, 7] (fun tv v W => ∃ t ys, tv = .string (bs t) ∧ s = linesT ys ++ t ∧ (∀ y ∈ ys, U32 y) ∧ ys.length ≤ s.length ∧ Below wN.heap.size wN W ∧ W.ownsRow wN.heap.size 44 1 v ys.length (ys.map wdU)) (fun tv _ _ => sLen tv)
  case atStart => exact ⟨s, [], rfl, rfl, by simp, by simp, g_below hgM, HO0.out⟩
  case round =>
    obtain ⟨t, ys, rfl, hst, hr, hyl, hb, ho⟩ := hrel
    obtain ⟨ao, cp, rfl⟩ := own_shape ho
    have HST := hide hst
    have HR := hide hr
    have HB := hide hb
    have HO := hide ho
    have htl : t.length ≤ 200000 := by have := congrArg List.length hst; simp at this; omega
    clear hst hr hb ho
    by_cases ht : t = []
    · have he : (bs t).toList.isEmpty = true := by rw [bs_emp, ht]; rfl
      have HT := hide ht
      clear ht
      go_wp2_with fail
      go_ret3
      obtain rfl := HT.out
      have e := HST.out
      rw [List.append_nil] at e
      subst e
      exact ⟨ys, [], Sp.ended HR.out, grown_trans hgN (below_g HB.out), .inl ⟨rfl, _, rfl, own_base HO.out hgN.size⟩⟩
    · have he : (bs t).toList.isEmpty = false := by rw [bs_emp]; simpa using ht
      have HT := hide ht
      clear ht
      have AR := hide (HA.out.g (grown_trans hgN (below_g HB.out)))
      have HC0 := cut10_any t (by omega) wr AR.out.al
      have HMR := hide (HM.out.kept (below_g HB.out) (by simp))
      by_cases hm : (10 : UInt8) ∈ t
      · obtain ⟨p, r, hpr, hp⟩ := List.eq_append_cons_of_mem hm
        rw [hpr, cut_yes p r hp, ← hpr] at HC0
        have HC := hide HC0
        have HP := hide hp
        have hpl : p.length ≤ 200000 := by rw [hpr] at htl; simp at htl; omega
        have HPR := hide hpr
        clear hm HC0 hp hpr
        go_wp2_with fail
        refine HC.out.mono ?_
        rintro e w1 ⟨rfl, hg1⟩
        go_wp2_with fail
        refine (wob_any p hpl w1 (AR.out.g hg1) (HMR.out.kept hg1 (by simp))).mono ?_
        rintro e w2 ⟨v, ok, rfl, hg2, hW⟩
        have HW := hide hW
        clear hW
        cases ok
        · go_wp2_with fail
          go_ret3
          refine ⟨ys, t, ⟨HST.out, HR.out, ?_⟩, grown_trans hgN (grown_trans (below_g HB.out) (grown_trans hg1 hg2)), .inr ⟨HT.out, rfl⟩⟩
          rw [HPR.out]
          exact no_word HP.out HW.out
        · have HO2 := hide ((HO.out.kept (grown_trans hg1 hg2) (by cases ao <;> simp [Value.ownBlock])))
          go_wp2_with (at_builtin; refine wpList_append_own _ rfl _ _ 22 rfl wN.heap.size 44 i0 (.int .u32 0) 1 4 Tryz.underlying22 hi hz0 hz1 hz2 rfl (by decide) _ _ _ rfl (HO2.out.alloc _) ⟨w2.heap.size, 0, none⟩ 1 1 [wdU v] rfl rfl ?c1 ?c2 ?c3 ?c4 ?c5 ?_)
          case c1 => exact cell_one_new' _ _ _
          case c2 => intro u hu; simp at hu; subst hu; rfl
          case c3 => unfold maxLen; omega
          case c4 => omega
          case c5 => have := HB.out.size; have := hg1.size; have := hg2.size; simp; omega
          intro v' w3 hown' hgrow _
          have hlt := (HO2.out.alloc (.cells #[wdU v] 44)).lt
          have HB3 := hide (show Below wN.heap.size wN w3 from ((below_trans (below_trans HB.out (g_below_at hg1 HB.out.size)) (g_below_at hg2 (Nat.le_trans HB.out.size hg1.size))).alloc (by have := HB.out.size; have := hg1.size; have := hg2.size; omega) _).grown hgrow (by have := HB.out.size; have := hg1.size; have := hg2.size; simp; omega) (fun g hg => (hlt g hg).1))
          have HO3 := hide hown'
          clear hown' hgrow hlt
          go_wp2
          go_roundw
          case rel =>
            refine ⟨r, ys ++ [v], rfl, ?_, ?_, ?_, HB3.out, ?_⟩
            · rw [linesT_snoc, HW.out.2.1 rfl, List.append_assoc, List.append_assoc]
              have := HST.out
              rw [HPR.out] at this
              exact this
            · intro y hy
              rcases List.mem_append.1 hy with hy | hy
              · exact HR.out y hy
              · simp at hy; subst hy; exact HW.out.1
            · have h1 := congrArg List.length HST.out
              have h2 := congrArg List.length HPR.out
              have h3 := lines_ge ys
              simp at h1 h2 ⊢; omega
            · simpa using HO3.out
          case measure =>
            have := congrArg List.length HPR.out
            simp [sLen, bs_size] at this ⊢; omega
      · rw [cut_no t hm] at HC0
        have HC := hide HC0
        have HN := hide hm
        clear hm HC0
        go_wp2_with fail
        refine HC.out.mono ?_
        rintro e w1 ⟨rfl, hg1⟩
        go_wp2_with fail
        refine (wob_any t htl w1 (AR.out.g hg1) (HMR.out.kept hg1 (by simp))).mono ?_
        rintro e w2 ⟨v, ok, rfl, hg2, hW⟩
        clear hW
        go_wp2_with fail
        go_ret3
        exact ⟨ys, t, ⟨HST.out, HR.out, no_end HN.out⟩, grown_trans hgN (grown_trans (below_g HB.out) (grown_trans hg1 hg2)), .inr ⟨HT.out, rfl⟩⟩
end Go.Proofs.YtfdofleohichiaaGreatDoor.Asm
namespace Go.Proofs.YtfdofleohichiaaGreatDoor.Asm
open Go.ChangeShapes Go.WideShapes Go.ChangeAt Go.RowKit Go.Deep Go.Maps Go.Joins Go.Proofs.YtfdofleohichiaaGreatDoor.Bits Go.Proofs.YtfdofleohichiaaGreatDoor.Gw Go.Proofs.YtfdofleohichiaaGreatDoor.Risc Go.Proofs.YtfdofleohichiaaGreatDoor.Tx Go.Proofs.YtfdofleohichiaaGreatDoor.Mp
set_option linter.unusedVariables false
set_option linter.unusedSimpArgs false
set_option maxRecDepth 100000

theorem Sr.nil (w : World) (ao : Option Addr) : Sr w ao [] := ⟨fun j x h => by simp at h, fun x h => by simp at h⟩
/- The argument '.slice ao n cp' is the list of words xs. -/
structure Wl (w : World) (ao : Option Addr) (n cp : Nat) (xs : List Int) : Prop where
  src : Sr w ao xs
  len : xs.length = n
  none : ao = .none → cp = 0 ∧ n = 0
  max : n ≤ maxLen
theorem cellsU : Tryz.prog.cellsOf 44 = 1 := by kernel_rfl
section
variable {H : Type} {enc : TypeId × Value → H} {W : World} {base b0 : Nat} {spare : Nat → Bool} {held : Bool} {r : Reach}
theorem choose_lt' {α : Type} [Inhabited α] {n : Nat} {p : Nat → α → Prop} (h : ∀ i, i < n → ∃ x, p i x) : ∃ f : Nat → α, ∀ i, i < n → p i (f i) :=
  ⟨fun i => if hi : i < n then (h i hi).choose else default, fun i hi => by simp only [hi, dite_true]; exact (h i hi).choose_spec⟩
theorem open_words {ao : Option Addr} {n cp : Nat} {d : DataW H} {p : List MemPlace} (h : DataW.Trod enc Tryz.prog W base spare held 22 (.slice ao n cp) d p) : ∃ xs, Wl W ao n cp xs := by
  obtain ⟨fuel, hf⟩ := h
  rcases open_slice1 Tryz.underlying22 cellsU hf with ⟨hcs, _⟩ | ⟨a, len, cap, m, k, V, D, Pl, hcs, _, hl, hm, hmm, _, hx⟩
  · simp [Value.cells] at hcs
    obtain ⟨rfl, rfl, rfl⟩ := hcs
    exact ⟨[], Sr.nil _ _, rfl, fun _ => ⟨rfl, rfl⟩, Nat.zero_le _⟩
  · simp [Value.cells] at hcs
    obtain ⟨rfl, rfl, rfl⟩ := hcs
    have hlm : n ≤ m := by rw [hmm]; split <;> omega
    obtain ⟨f, hf⟩ := choose_lt' (α := Int) (n := n) (p := fun i x => W.cell? (a.add i) = some (.int .u32 x) ∧ 0 ≤ x ∧ x < 4294967296) (fun i hi => by
      obtain ⟨h1, h2⟩ := hx i (by omega)
      obtain ⟨x, e, _, hw⟩ := DataW.trod_int Tryz.underlying44 h2
      simp at e
      have := bounds_u32 hw
      exact ⟨x, by rw [h1, e], by omega, by omega⟩)
    refine ⟨(List.range n).map f, ⟨fun j u hu => ⟨a, rfl, ?_⟩, fun x hx => ?_⟩, by simp, fun e => (by cases e), by omega⟩
    · have hj : j < n := by have := (List.getElem?_eq_some_iff.1 hu).1; simpa using this
      simp [hj] at hu
      rw [(hf j hj).1, hu]
    · obtain ⟨i, hi, rfl⟩ := List.mem_map.1 hx
      exact (hf i (List.mem_range.1 hi)).2
end
theorem own_sr {w : World} {B n : Nat} {v : Value} {xs : List Int} (h : w.ownsRow B 44 1 v n (xs.map wdU)) (hr : ∀ x ∈ xs, U32 x) : ∃ ao cp, v = .slice ao xs.length cp ∧ Sr w ao xs := by
  have hl : xs.length = n := by simpa using h.1
  subst hl
  rcases h.2 with ⟨rfl, h0⟩ | ⟨g, cap, cur, rfl, hb, hg, hc, hm, hs, ht⟩
  · have : xs = [] := List.length_eq_zero_iff.1 h0
    subst this
    exact ⟨none, 0, rfl, Sr.nil _ _⟩
  · refine ⟨some ⟨g, 0, none⟩, cap, rfl, fun j x hx => ⟨_, rfl, ?_⟩, hr⟩
    have e := congrArg (fun l => l[j]?) ht
    have hj : j < xs.length := (List.getElem?_eq_some_iff.1 hx).1
    simp only [Nat.mul_one, List.getElem?_map, hx, Option.map_some] at e
    rw [List.getElem?_take, if_pos hj, Array.getElem?_toList] at e
    have k : (⟨g, 0, none⟩ : Addr).add j = ⟨g, j, none⟩ := by unfold Addr.add; split <;> simp_all
    rw [k, cell_of_row _ _ _ _ _ _ hg]
    exact e
theorem news_of {w : World} {ad : Addr} {xs : List Int} (S : Sr w (some ad) xs) : ∀ (j : Nat) u, (xs.map wdU)[j]? = some u → w.cell? (ad.add j) = some u := by
  intro j u hu
  rw [List.getElem?_map] at hu
  cases hx : xs[j]? with
  | none => rw [hx] at hu; cases hu
  | some x =>
    rw [hx] at hu
    cases hu
    obtain ⟨a, e, hc⟩ := S.at_ j x hx
    cases e
    exact hc
/- 'append([]uint32{}, words...)'. -/
theorem wpList_append_src {w : World} {ops : Array Oper} {rest : List Oper} {o : Oper} {a : Act} {Q : Exit → Act → World → Prop} (hgd : o.guard = none) (s x : Operand)
    (ho : o.op = .call { callee := .builtin .append, args := #[s, x], argTypes := #[22, 22] }) (g : Nat) (hs : a.eval s = .slice (some ⟨g, 0, none⟩) 0 0) (hg : w.heap[g]? = some (.cells #[] 44 (0, 0)))
    (ao : Option Addr) (n c : Nat) (hx : a.eval x = .slice ao n c) (xs : List Int) (hsrc : Wl w ao n c xs) (hlen : n ≤ 2000)
    (B : Nat) (hB : B ≤ g)
    (h : ∀ ao' c' w', Sr w' ao' xs → Below B w w' → wpList Tryz.prog ops Q rest (a.put o.dst (.slice ao' n c')) w') : wpList Tryz.prog ops Q (o :: rest) a w := by
  obtain ⟨i0, hi, hz0, hz1, hz2⟩ := info_parts infoU
  have hgl : g < w.heap.size := (Array.getElem?_eq_some_iff.1 hg).1
  have hown : w.ownsRow B 44 1 (.slice (some ⟨g, 0, none⟩) 0 0) 0 (([] : List Int).map wdU) := ⟨by simp, .inr ⟨g, 0, #[], rfl, hB, hg, Nat.le_refl _, by unfold maxLen; omega, by simp, by simp⟩⟩
  cases ao with
  | none =>
    obtain ⟨rfl, rfl⟩ := hsrc.none rfl
    have hx0 : xs = [] := List.length_eq_zero_iff.1 hsrc.len
    subst hx0
    refine wpList_append_own_none hgd s x 22 ho B 44 i0 1 Tryz.underlying22 hi _ 0 _ hs hown hx ?_
    exact h _ _ _ (Sr.nil _ _) ⟨rfl, rfl, rfl, Nat.le_refl _, fun _ _ => rfl⟩
  | some ad =>
    refine wpList_append_own w hgd s x 22 ho B 44 i0 (.int .u32 0) 1 4 Tryz.underlying22 hi hz0 hz1 hz2 rfl (by decide) _ 0 _ hs hown ad n c (xs.map wdU) hx (by simp [hsrc.len]) (news_of hsrc.src) (by intro u hu; obtain ⟨x, _, rfl⟩ := List.mem_map.1 hu; rfl) (by unfold maxLen; omega) (by omega) (by omega) ?_
    intro v' w' ho' hg' hv'
    simp only [Nat.zero_add, List.map_nil, List.nil_append] at ho'
    obtain ⟨ao', c', rfl, S⟩ := own_sr ho' hsrc.src.rng
    rw [hsrc.len]
    refine h ao' c' w' S ⟨hg'.os, hg'.tape, hg'.output, hg'.size, fun k hk => hg'.block k (by omega) ?_⟩
    simp [Value.ownBlock]; omega
set_option maxHeartbeats 2000000 in
theorem kwords_any {ao ao' : Option Addr} {xs : List Int} {w : World} (cp cp' : Nat) (S : Sr w ao xs) (S' : Sr w ao' xs) (hn : xs.length ≤ 200000) :
    Calls Tryz.prog 8 #[.slice ao xs.length cp, .slice ao' xs.length cp'] w fun e w' => e = .returned (.bool true) ∧ w.grownBy w' none := by
  have HS := hide S
  have HS' := hide S'
  clear S S'
  go_enter Tryz.func8, Tryz.ntmps8
  go_wp2
  go_loopw [5] (fun i W => ∃ k d : Nat, k ≤ xs.length ∧ i = .int .i64 k ∧ W = w.drewN d) (fun i _ => xs.length - (intOf i).toNat)
  case atStart => exact ⟨0, 0, by omega, rfl, rfl⟩
  case round =>
    obtain ⟨k, d, hk, rfl, rfl⟩ := hrel
    by_cases hkl : k < xs.length
    · obtain ⟨x, hx⟩ : ∃ x, xs[k]? = some x := ⟨_, List.getElem?_eq_getElem hkl⟩
      obtain ⟨a, rfl, hc⟩ := HS.out.at_ k x hx
      obtain ⟨a', rfl, hc'⟩ := HS'.out.at_ k x hx
      clear hx
      go_wp2
      go_quiet (fail)
      go_wp2
      exact ⟨⟨k + 1, d + nq, by omega, by go_num, rfl⟩, by simp [intOf]; omega⟩
    · go_wp2
      go_ret
      exact ⟨rfl, drewN_g _ _⟩
theorem count_lines : ∀ (xs : List Int), (∀ x ∈ xs, U32 x) → (linesT xs).count 10 = xs.length
  | [], _ => rfl
  | x :: xs, h => by
    have := linesT_cons x xs []
    rw [List.append_nil, List.append_nil] at this
    rw [this, List.count_append, List.count_cons_self, count_lines xs (fun y hy => h y (by simp [hy])), List.count_eq_zero_of_not_mem (lnT_no10 (h x (by simp)))]
    simp
def debT : List Int := [0, 1, 56, 2, 57, 49, 28, 3, 61, 58, 42, 50, 38, 29, 17, 4, 62, 47, 59, 36, 45, 43, 51, 22, 53, 39, 33, 30, 24, 18, 12, 5, 63, 55, 48, 27, 60, 41, 37, 16, 46, 35, 44, 21, 52, 32, 23, 11, 54, 26, 40, 15, 34, 20, 31, 10, 25, 14, 19, 9, 13, 8, 7, 6]
theorem of_laid_ah {W : World} (h : laidMetH Tryz.prog laid11 W) (hs : W.ShapedOpen Tryz.prog) : AH W := by
  refine ⟨of_laid_al h hs, ?_⟩
  rw [MakeChecks.laidMetH_plain _ _ _ (by kernel_rfl)] at h
  obtain ⟨ps, hl, _⟩ := h
  obtain ⟨g, t, cs, f, p, hg, ht, hv, hd⟩ := laid_get hl 1 rfl
  obtain rfl : g = 18 := Option.some.inj (hg.symm.trans (by kernel_rfl))
  obtain rfl : t = 209 := Option.some.inj (ht.symm.trans (by kernel_rfl))
  have hc := Lib.cells_of_tab (k := .u8) (zs := debT) Tryz.underlying209 Tryz.underlying5 (by kernel_rfl) (by kernel_rfl) hd
  have := World.var?_cell hg hv 15
  rw [← Array.getElem?_toList, hc] at this
  exact this
end Go.Proofs.YtfdofleohichiaaGreatDoor.Asm
