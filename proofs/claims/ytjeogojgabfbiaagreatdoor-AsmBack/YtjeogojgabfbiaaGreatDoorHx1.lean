/-
  What Go's own strconv.ParseUint answers of a text in base 16, 32 bits.
-/
import Derived.Test.YtjeogojgabfbiaaGreatDoorShelf2
import Derived.Test.YtjeogojgabfbiaaGreatDoorCd1
import Derived.Lib.ConvBytes
namespace Go.Proofs.YtjeogojgabfbiaaGreatDoor.Asm
open Go.RowKit Go.Maps Go.Proofs.YtjeogojgabfbiaaGreatDoor.Bits Go.Proofs.YtjeogojgabfbiaaGreatDoor.Gw Go.Proofs.YtjeogojgabfbiaaGreatDoor.Risc Go.Proofs.YtjeogojgabfbiaaGreatDoor.Tx Go.Proofs.YtjeogojgabfbiaaGreatDoor.Mp
set_option linter.unusedVariables false
set_option linter.unusedSimpArgs false
set_option maxRecDepth 100000

def isHx (c : UInt8) : Bool := (decide (48 ≤ c.toNat) && decide (c.toNat ≤ 57)) || (decide (97 ≤ c.toNat) && decide (c.toNat ≤ 102))
def hxd (c : UInt8) : Nat := if c.toNat ≤ 57 then c.toNat - 48 else c.toNat - 87
def hxVal (l : List UInt8) : Nat := l.foldl (fun n c => 16 * n + hxd c) 0
def hexOk (t : List UInt8) : Bool := t.all isHx && decide (t.length ≤ 8)
theorem hxVal_snoc (l : List UInt8) (c : UInt8) : hxVal (l ++ [c]) = 16 * hxVal l + hxd c := by simp [hxVal, List.foldl_append]
theorem hxd_lt {c : UInt8} (h : isHx c = true) : hxd c < 16 := by
  simp [isHx] at h
  unfold hxd
  split <;> omega
theorem hxVal_lt : ∀ (k : Nat) (l : List UInt8), l.length = k → l.all isHx = true → hxVal l < 16 ^ k := by
  intro k
  induction k with
  | zero => intro l h _; cases l with | nil => simp [hxVal] | cons c l => simp at h
  | succ k ih =>
    intro l h ha
    obtain ⟨m, c, rfl⟩ : ∃ m c, l = m ++ [c] := by
      have : l ≠ [] := by intro e; rw [e] at h; simp at h
      exact ⟨l.dropLast, l.getLast this, (List.dropLast_concat_getLast this).symm⟩
    simp at h ha
    have h1 := ih m h (by simpa using ha.1)
    have h2 := hxd_lt ha.2
    rw [hxVal_snoc, Nat.pow_succ]
    omega
/- What is known after k bytes. -/
def HxS (t : List UInt8) (k : Nat) (a : Int) : Prop := 0 ≤ a ∧ a ≤ 4294967295 ∧ (hexOk t = true → a = (hxVal (t.take k) : Int))
theorem hx_step {t : List UInt8} {k : Nat} (hk : k < t.length) {a d : Int} (h : HxS t k a) (d0 : 0 ≤ d) (hd : isHx t[k] = true → d = (hxd t[k] : Int)) (hb : a * 16 + d ≤ 4294967295) : HxS t (k + 1) (a * 16 + d) := by
  refine ⟨by have := h.1; omega, hb, fun ho => ?_⟩
  have e := h.2.2 ho
  have hx : isHx t[k] = true := by
    simp only [hexOk, Bool.and_eq_true] at ho
    exact List.all_eq_true.1 ho.1 _ (List.getElem_mem hk)
  rw [List.take_succ_eq_append_getElem hk, hxVal_snoc, hd hx, e]
  omega
theorem hx_range {t : List UInt8} {k : Nat} (hk : k < t.length) {a d : Int} (h : HxS t k a) (hd : isHx t[k] = true → d = (hxd t[k] : Int)) (hb : ¬ a * 16 + d ≤ 4294967295) : hexOk t = false := by
  cases ho : hexOk t with
  | false => rfl
  | true =>
    exfalso
    have e := h.2.2 ho
    simp only [hexOk, Bool.and_eq_true, decide_eq_true_eq] at ho
    have hx := List.all_eq_true.1 ho.1 _ (List.getElem_mem hk)
    have h1 := hxVal_lt (k + 1) (t.take (k + 1)) (by rw [List.length_take]; omega) (List.all_eq_true.2 fun c hc => List.all_eq_true.1 ho.1 c (List.mem_of_mem_take hc))
    rw [List.take_succ_eq_append_getElem hk, hxVal_snoc] at h1
    have h2 : 16 ^ (k + 1) ≤ 16 ^ 8 := Nat.pow_le_pow_right (by decide) (by omega)
    have e8 : (16 : Nat) ^ 8 = 4294967296 := by decide
    rw [hd hx, e] at hb
    omega
theorem hx_bad {t : List UInt8} {k : Nat} (hk : k < t.length) (h : isHx t[k] = false) : hexOk t = false := by
  cases ho : hexOk t with
  | false => rfl
  | true =>
    simp only [hexOk, Bool.and_eq_true] at ho
    rw [List.all_eq_true.1 ho.1 _ (List.getElem_mem hk)] at h
    cases h
def PuR (t : List UInt8) (v : Int) (ev : Value) : Prop := 0 ≤ v ∧ v ≤ 4294967295 ∧ (ev = .nilIface ∨ ev = .iface 144 (.int .i64 2) ∨ ev = .iface 144 (.int .i64 1)) ∧ (hexOk t = true → v = (hxVal t : Int))
set_option maxHeartbeats 8000000 in
theorem pui_any (t : List UInt8) (hne : t ≠ []) (hmax : t.length ≤ 1000000) (w : World) :
    Calls Tryz.prog 87 #[.string (bs t), .int .i64 16, .int .i64 32] w fun e w' => ∃ v ev, e = .returned (.tuple #[.int .u64 v, ev]) ∧ w' = Lib.bytesWorld w 5 (bs t) ∧ PuR t v ev := by
  have hemp : (bs t).toList.isEmpty = false := by
    rw [← decide_eq_emptyBytes]
    exact decide_eq_false (fun h => hne (by have := congrArg (fun z : ByteArray => z.data.toList) h; simpa [bs] using this))
  have hcv := Lib.run_convert_string_bytes (P := Tryz.prog) w 9 67 5 (bs t) (u := .string) Tryz.underlying9 Tryz.underlying67 Tryz.underlying5
  have hB : ∀ j, j < (bs t).size → (Lib.bytesWorld w 5 (bs t)).cell? ⟨w.heap.size, j, none⟩ = some (.int .u8 ((bs t).data.toList.getD j 0).toNat) := fun j hj => Lib.bytesWorld_cell w 5 (bs t) j hj
  obtain ⟨W1, hW1⟩ : ∃ W1, W1 = Lib.bytesWorld w 5 (bs t) := ⟨_, rfl⟩
  rw [← hW1] at hcv hB ⊢
  clear hW1
  have hsz := bs_size t
  rw [hsz] at hcv
  have hmv : IntKind.u64.wrap (IntKind.u64.wrap 4294967296 - 1) = 4294967295 := by
    rw [IntKind.wrap_u64, IntKind.wrap_u64]
    decide
  go_enter Tryz.func87, Tryz.ntmps87
  go_wp2
  go_loop [12, 13, 101] (fun vu vn vi => ∃ (k : Nat) (a : Int), vu = .bool false ∧ vn = .int .u64 a ∧ vi = .int .i64 k ∧ k ≤ t.length ∧ Hid (HxS t k a))
    (fun _ _ vi => t.length - (intOf vi).toNat)
  case atStart => exact ⟨0, 0, rfl, rfl, rfl, by omega, ⟨by decide, by decide, fun _ => rfl⟩⟩
  case round =>
    obtain ⟨k, a, rfl, rfl, rfl, hk, hh⟩ := hrel
    have a0 : 0 ≤ a := hh.out.1
    have a1 : a ≤ 4294967295 := hh.out.2.1
    by_cases hkn : k < t.length
    · have hc := hB k (by rw [hsz]; exact hkn)
      have hget : (bs t).data.toList.getD k 0 = t[k] := by simp [bs, List.getD_eq_getElem?_getD, hkn]
      rw [hget] at hc
      have HST := hide (fun d d0 hd hb => hx_step hkn (a := a) (d := d) hh.out d0 hd hb)
      have HRG := hide (fun d hd hb => hx_range hkn (a := a) (d := d) hh.out hd hb)
      have HBD := hide (hx_bad hkn)
      clear hB hget
      generalize t[k] = c at *
      have hc256 : c.toNat < 256 := c.toNat_lt
      by_cases hdig : 48 ≤ c.toNat ∧ c.toNat ≤ 57
      · obtain ⟨hd0, hd1⟩ := hdig
        have hdd : isHx c = true → ((c.toNat : Int) - 48) = (hxd c : Int) := fun _ => by unfold hxd; rw [if_pos hd1]; omega
        by_cases hov : a * 16 + ((c.toNat : Int) - 48) ≤ 4294967295
        · have HN := hide (HST.out _ (by omega) hdd hov)
          clear hdd
          go_wp2
          refine ⟨⟨k + 1, a * 16 + ((c.toNat : Int) - 48), rfl, (by first | rfl | (congr 1; omega)), (by first | rfl | (congr 1; omega)), by omega, HN⟩, by simp [intOf]; omega⟩
        · have HN := hide (HRG.out _ hdd hov)
          clear hdd
          go_wp2
          go_ret2
          exact ⟨_, _, rfl, rfl, by decide, by decide, Or.inr (Or.inr rfl), fun h => by rw [HN.out] at h; cases h⟩
      · have hv0 := bits_lo_u8 .or (c.toNat : Int) 32
        have hv1 := bits_hi_u8 .or (c.toNat : Int) 32
        have hu0 := bits_lo_u8 .or 95 32
        have hu1 := bits_hi_u8 .or 95 32
        have hlow : Hid (isHx c = true → bits .or .u8 (c.toNat : Int) 32 = (c.toNat : Int)) := hide (fun h => by
          have : c.toNat = 97 ∨ c.toNat = 98 ∨ c.toNat = 99 ∨ c.toNat = 100 ∨ c.toNat = 101 ∨ c.toNat = 102 := by simp [isHx] at h; omega
          rcases this with e | e | e | e | e | e <;> rw [e] <;> decide)
        have hdd : Hid (∀ l : Int, bits .or .u8 (c.toNat : Int) 32 = l → isHx c = true → l - 97 + 10 = (hxd c : Int)) := hide (fun l hl h => by
          have e := hlow.out h
          have : 97 ≤ c.toNat ∧ c.toNat ≤ 102 := by simp [isHx] at h; omega
          rw [← hl, e]
          unfold hxd
          rw [if_neg (by omega)]
          omega)
        have hin : Hid (isHx c = true → 97 ≤ bits .or .u8 (c.toNat : Int) 32 ∧ bits .or .u8 (c.toNat : Int) 32 ≤ 102) := hide (fun h => by
          have e := hlow.out h
          have : 97 ≤ c.toNat ∧ c.toNat ≤ 102 := by simp [isHx] at h; omega
          rw [e]; omega)
        have LW := hide (fun W => Tryz.internal_strconv_lower (c.toNat : Int) W)
        have hu : c.toNat = 95 → bits .or .u8 (c.toNat : Int) 32 = 127 := fun e => by rw [e]; decide
        generalize hl : bits .or .u8 (c.toNat : Int) 32 = l at *
        replace hdd := hide (hdd.out l rfl)
        have hndig : ¬ ((48 : Int) ≤ c.toNat ∧ (c.toNat : Int) ≤ 57) := by omega
        clear hl hlow
        have HU := hide hu
        clear hu hu0 hu1
        by_cases hlz : 97 ≤ l ∧ l ≤ 122
        · obtain ⟨l0, l1⟩ := hlz
          have hn95 : ¬ (c.toNat : Int) = 95 := fun e => by have := HU.out (by omega); omega
          by_cases hd16 : l ≤ 102
          · by_cases hov : a * 16 + (l - 97 + 10) ≤ 4294967295
            · have HN := hide (HST.out _ (by omega) hdd.out hov)
              go_wp2_with (go_at_call 107; refine (LW.out _).mono ?_; rintro e w' ⟨rfl, rfl⟩)
              all_goals exact ⟨⟨k + 1, a * 16 + (l - 97 + 10), rfl, (by first | rfl | (congr 1; omega)), (by first | rfl | (congr 1; omega)), by omega, HN⟩, by simp [intOf]; omega⟩
            · have HN := hide (HRG.out _ hdd.out hov)
              go_wp2_with (go_at_call 107; refine (LW.out _).mono ?_; rintro e w' ⟨rfl, rfl⟩)
              all_goals go_ret2
              all_goals exact ⟨_, _, rfl, rfl, by decide, by decide, Or.inr (Or.inr rfl), fun h => by rw [HN.out] at h; cases h⟩
          · have HN := hide (HBD.out (by cases hx : isHx c with
              | false => rfl
              | true => have := hin.out hx; omega))
            go_wp2_with (go_at_call 107; refine (LW.out _).mono ?_; rintro e w' ⟨rfl, rfl⟩)
            all_goals go_ret2
            all_goals exact ⟨_, _, rfl, rfl, by decide, by decide, Or.inr (Or.inl rfl), fun h => by rw [HN.out] at h; cases h⟩
        · have HN := hide (HBD.out (by cases hx : isHx c with
            | false => rfl
            | true => have := hin.out hx; omega))
          by_cases h95 : c.toNat = 95
          · have LW5 := hide (fun W => Tryz.internal_strconv_lower 95 W)
            have e95 : bits .or .u8 95 32 = 127 := by decide
            rw [h95] at hc
            clear h95 hlz hv0 hv1 hdig hndig
            go_wp2_with (go_at_call 107; refine (LW5.out _).mono ?_; rintro e w' ⟨rfl, rfl⟩)
            all_goals go_ret2
            all_goals exact ⟨_, _, rfl, rfl, by decide, by decide, Or.inr (Or.inl rfl), fun h => by rw [HN.out] at h; cases h⟩
          · have hn95 : ¬ (c.toNat : Int) = 95 := by omega
            go_wp2_with (go_at_call 107; refine (LW.out _).mono ?_; rintro e w' ⟨rfl, rfl⟩)
            all_goals go_ret2
            all_goals exact ⟨_, _, rfl, rfl, by decide, by decide, Or.inr (Or.inl rfl), fun h => by rw [HN.out] at h; cases h⟩
    · obtain rfl : k = t.length := by omega
      have HN := hh.out.2.2
      rw [List.take_length] at HN
      have HN2 := hide HN
      clear HN hh
      go_wp2
      go_ret2
      exact ⟨a, _, rfl, rfl, a0, a1, Or.inl rfl, HN2.out⟩
end Go.Proofs.YtjeogojgabfbiaaGreatDoor.Asm
