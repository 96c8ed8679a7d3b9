/-
  What Go's own strconv.ParseUint answers of capital hexadecimal digits, of 32 and of 8 bits.
-/
import Derived.Test.YthnkkcamfcmhmaaDoorLx11
import Derived.Test.YthnkkcamfcmhmaaDoorShelf
import Derived.Lib.ConvBytes
namespace Go.Proofs.YthnkkcamfcmhmaaDoor.Lx
open Go.RowKit Go.Proofs.YthnkkcamfcmhmaaDoor.Tx
set_option linter.unusedVariables false
set_option linter.unusedSimpArgs false
set_option maxRecDepth 100000

theorem take_val {t : List UInt8} {k : Nat} (hk : k < t.length) : valB 16 (t.take (k + 1)) = valB 16 (t.take k) * 16 + dvN t[k] := by
  rw [List.take_succ_eq_append_getElem hk, valB_snoc]
theorem take_le {t : List UInt8} (k : Nat) : valB 16 (t.take k) ≤ valB 16 t := by
  have := valB_mono 16 (by decide) (t.take k) (t.drop k)
  rwa [List.take_append_drop] at this
def PuE (M : Nat) (t : List UInt8) (v : Int) (ev : Value) : Prop := (valB 16 t ≤ M → v = (valB 16 t : Int) ∧ ev = .nilIface) ∧ (M < valB 16 t → ev = .iface 102 (.int .i64 1))
set_option maxHeartbeats 8000000 in
theorem pui32 (t : List UInt8) (hne : t ≠ []) (hmax : t.length ≤ 1000000) (ha : t.all hexN = true) (w : World) :
    Calls Tryd.prog 56 #[.string (bs t), .int .i64 16, .int .i64 32] w fun e w' => ∃ v ev, e = .returned (.tuple #[.int .u64 v, ev]) ∧ w' = Lib.bytesWorld w 5 (bs t) ∧ 0 ≤ v ∧ v ≤ 4294967295 ∧ PuE 4294967295 t v ev := by
  have hemp : (bs t).toList.isEmpty = false := by
    rw [← decide_eq_emptyBytes]
    exact decide_eq_false (fun h => hne (by have := congrArg (fun z : ByteArray => z.data.toList) h; simpa [bs] using this))
  have hcv := Lib.run_convert_string_bytes (P := Tryd.prog) w 9 34 5 (bs t) (u := .string) Tryd.underlying9 Tryd.underlying34 Tryd.underlying5
  have hB : ∀ j, j < (bs t).size → (Lib.bytesWorld w 5 (bs t)).cell? ⟨w.heap.size, j, none⟩ = some (.int .u8 ((bs t).data.toList.getD j 0).toNat) := fun j hj => Lib.bytesWorld_cell w 5 (bs t) j hj
  obtain ⟨W1, hW1⟩ : ∃ W1, W1 = Lib.bytesWorld w 5 (bs t) := ⟨_, rfl⟩
  rw [← hW1] at hcv hB ⊢
  clear hW1
  have hsz := bs_size t
  rw [hsz] at hcv
  have hmv : IntKind.u64.wrap (IntKind.u64.wrap 4294967296 - 1) = 4294967295 := by
    rw [IntKind.wrap_u64, IntKind.wrap_u64]
    decide
  have HA := hide ha
  clear ha
  go_enter Tryd.func56, Tryd.ntmps56
  go_wp2
  go_loop [12, 13, 101] (fun vu vn vi => ∃ (k : Nat) (a : Int), vu = .bool false ∧ vn = .int .u64 a ∧ vi = .int .i64 k ∧ k ≤ t.length ∧ 0 ≤ a ∧ a ≤ 4294967295 ∧ Hid (a = (valB 16 (t.take k) : Nat)))
    (fun _ _ vi => t.length - (intOf vi).toNat)
  case atStart => exact ⟨0, 0, rfl, rfl, rfl, by omega, by decide, by decide, hide rfl⟩
  case round =>
    obtain ⟨k, a, rfl, rfl, rfl, hk, a0, a1, hh⟩ := hrel
    by_cases hkn : k < t.length
    · have hc := hB k (by rw [hsz]; exact hkn)
      have hget : (bs t).data.toList.getD k 0 = t[k] := by simp [bs, List.getD_eq_getElem?_getD, hkn]
      rw [hget] at hc
      have HST := hide (take_val hkn)
      have HH := hh
      have HL := hide (take_le (t := t) (k + 1))
      have hx : hexN t[k] = true := List.all_eq_true.1 HA.out _ (List.getElem_mem hkn)
      clear hB hget
      generalize t[k] = c at *
      have hc256 : c.toNat < 256 := c.toNat_lt
      cases hlt : letN c
      · obtain ⟨d0, d1, dv⟩ := dv_dig hx hlt
        have i0 : (48 : Int) ≤ c.toNat := by omega
        have i1 : (c.toNat : Int) ≤ 57 := by omega
        by_cases hov : a * 16 + ((c.toNat : Int) - 48) ≤ 4294967295
        · have HN := hide (show a * 16 + ((c.toNat : Int) - 48) = (valB 16 (t.take (k + 1)) : Nat) by rw [HST.out, dv, HH.out]; omega)
          clear hx hlt dv d0 d1
          go_wp2
          refine ⟨⟨k + 1, a * 16 + ((c.toNat : Int) - 48), rfl, (by first | rfl | (congr 1; omega)), (by first | rfl | (congr 1; omega)), by omega, by omega, hov, HN⟩, by simp [intOf]; omega⟩
        · have HN := hide (show 4294967295 < valB 16 t by have h1 := HL.out; have h2 := HST.out; have h3 := HH.out; rw [dv] at h2; omega)
          clear hx hlt dv d0 d1
          go_wp2
          go_ret2
          exact ⟨_, _, rfl, rfl, by decide, by decide, fun h => absurd HN.out (by omega), fun _ => rfl⟩
      · obtain ⟨d0, d1, dv⟩ := dv_let hx hlt
        have hv : bits .or .u8 (c.toNat : Int) 32 = (c.toNat : Int) + 32 := by
          have : c.toNat = 65 ∨ c.toNat = 66 ∨ c.toNat = 67 ∨ c.toNat = 68 ∨ c.toNat = 69 ∨ c.toNat = 70 := by omega
          rcases this with e | e | e | e | e | e <;> rw [e] <;> decide
        have LW := hide (fun W => Tryd.internal_strconv_lower (c.toNat : Int) W)
        rw [hv] at LW
        have i0 : (65 : Int) ≤ c.toNat := by omega
        have i1 : (c.toNat : Int) ≤ 70 := by omega
        clear hv
        by_cases hov : a * 16 + ((c.toNat : Int) + 32 - 97 + 10) ≤ 4294967295
        · have HN := hide (show a * 16 + ((c.toNat : Int) + 32 - 97 + 10) = (valB 16 (t.take (k + 1)) : Nat) by rw [HST.out, dv, HH.out]; omega)
          clear hx hlt dv d0 d1
          go_wp2_with (go_at_call 62; refine (LW.out _).mono ?_; rintro e w' ⟨rfl, rfl⟩)
          all_goals exact ⟨⟨k + 1, a * 16 + ((c.toNat : Int) + 32 - 97 + 10), rfl, (by first | rfl | (congr 1; omega)), (by first | rfl | (congr 1; omega)), by omega, by omega, hov, HN⟩, by simp [intOf]; omega⟩
        · have HN := hide (show 4294967295 < valB 16 t by have h1 := HL.out; have h2 := HST.out; have h3 := HH.out; rw [dv] at h2; omega)
          clear hx hlt dv d0 d1
          go_wp2_with (go_at_call 62; refine (LW.out _).mono ?_; rintro e w' ⟨rfl, rfl⟩)
          all_goals go_ret2
          all_goals exact ⟨_, _, rfl, rfl, by decide, by decide, fun h => absurd HN.out (by omega), fun _ => rfl⟩
    · obtain rfl : k = t.length := by omega
      have HN := hh.out
      rw [List.take_length] at HN
      have HN2 := hide HN
      clear HN hh
      go_wp2
      go_ret2
      exact ⟨_, _, rfl, rfl, a0, a1, fun _ => ⟨HN2.out, rfl⟩, fun h => absurd HN2.out (by omega)⟩
set_option maxHeartbeats 8000000 in
theorem pui8 (t : List UInt8) (hne : t ≠ []) (hmax : t.length ≤ 1000000) (ha : t.all hexN = true) (w : World) :
    Calls Tryd.prog 56 #[.string (bs t), .int .i64 16, .int .i64 8] w fun e w' => ∃ v ev, e = .returned (.tuple #[.int .u64 v, ev]) ∧ w' = Lib.bytesWorld w 5 (bs t) ∧ 0 ≤ v ∧ v ≤ 255 ∧ PuE 255 t v ev := by
  have hemp : (bs t).toList.isEmpty = false := by
    rw [← decide_eq_emptyBytes]
    exact decide_eq_false (fun h => hne (by have := congrArg (fun z : ByteArray => z.data.toList) h; simpa [bs] using this))
  have hcv := Lib.run_convert_string_bytes (P := Tryd.prog) w 9 34 5 (bs t) (u := .string) Tryd.underlying9 Tryd.underlying34 Tryd.underlying5
  have hB : ∀ j, j < (bs t).size → (Lib.bytesWorld w 5 (bs t)).cell? ⟨w.heap.size, j, none⟩ = some (.int .u8 ((bs t).data.toList.getD j 0).toNat) := fun j hj => Lib.bytesWorld_cell w 5 (bs t) j hj
  obtain ⟨W1, hW1⟩ : ∃ W1, W1 = Lib.bytesWorld w 5 (bs t) := ⟨_, rfl⟩
  rw [← hW1] at hcv hB ⊢
  clear hW1
  have hsz := bs_size t
  rw [hsz] at hcv
  have hmv : IntKind.u64.wrap (IntKind.u64.wrap 256 - 1) = 255 := by
    rw [IntKind.wrap_u64, IntKind.wrap_u64]
    decide
  have HA := hide ha
  clear ha
  go_enter Tryd.func56, Tryd.ntmps56
  go_wp2
  go_loop [12, 13, 101] (fun vu vn vi => ∃ (k : Nat) (a : Int), vu = .bool false ∧ vn = .int .u64 a ∧ vi = .int .i64 k ∧ k ≤ t.length ∧ 0 ≤ a ∧ a ≤ 255 ∧ Hid (a = (valB 16 (t.take k) : Nat)))
    (fun _ _ vi => t.length - (intOf vi).toNat)
  case atStart => exact ⟨0, 0, rfl, rfl, rfl, by omega, by decide, by decide, hide rfl⟩
  case round =>
    obtain ⟨k, a, rfl, rfl, rfl, hk, a0, a1, hh⟩ := hrel
    by_cases hkn : k < t.length
    · have hc := hB k (by rw [hsz]; exact hkn)
      have hget : (bs t).data.toList.getD k 0 = t[k] := by simp [bs, List.getD_eq_getElem?_getD, hkn]
      rw [hget] at hc
      have HST := hide (take_val hkn)
      have HH := hh
      have HL := hide (take_le (t := t) (k + 1))
      have hx : hexN t[k] = true := List.all_eq_true.1 HA.out _ (List.getElem_mem hkn)
      clear hB hget
      generalize t[k] = c at *
      have hc256 : c.toNat < 256 := c.toNat_lt
      cases hlt : letN c
      · obtain ⟨d0, d1, dv⟩ := dv_dig hx hlt
        have i0 : (48 : Int) ≤ c.toNat := by omega
        have i1 : (c.toNat : Int) ≤ 57 := by omega
        by_cases hov : a * 16 + ((c.toNat : Int) - 48) ≤ 255
        · have HN := hide (show a * 16 + ((c.toNat : Int) - 48) = (valB 16 (t.take (k + 1)) : Nat) by rw [HST.out, dv, HH.out]; omega)
          clear hx hlt dv d0 d1
          go_wp2
          refine ⟨⟨k + 1, a * 16 + ((c.toNat : Int) - 48), rfl, (by first | rfl | (congr 1; omega)), (by first | rfl | (congr 1; omega)), by omega, by omega, hov, HN⟩, by simp [intOf]; omega⟩
        · have HN := hide (show 255 < valB 16 t by have h1 := HL.out; have h2 := HST.out; have h3 := HH.out; rw [dv] at h2; omega)
          clear hx hlt dv d0 d1
          go_wp2
          go_ret2
          exact ⟨_, _, rfl, rfl, by decide, by decide, fun h => absurd HN.out (by omega), fun _ => rfl⟩
      · obtain ⟨d0, d1, dv⟩ := dv_let hx hlt
        have hv : bits .or .u8 (c.toNat : Int) 32 = (c.toNat : Int) + 32 := by
          have : c.toNat = 65 ∨ c.toNat = 66 ∨ c.toNat = 67 ∨ c.toNat = 68 ∨ c.toNat = 69 ∨ c.toNat = 70 := by omega
          rcases this with e | e | e | e | e | e <;> rw [e] <;> decide
        have LW := hide (fun W => Tryd.internal_strconv_lower (c.toNat : Int) W)
        rw [hv] at LW
        have i0 : (65 : Int) ≤ c.toNat := by omega
        have i1 : (c.toNat : Int) ≤ 70 := by omega
        clear hv
        by_cases hov : a * 16 + ((c.toNat : Int) + 32 - 97 + 10) ≤ 255
        · have HN := hide (show a * 16 + ((c.toNat : Int) + 32 - 97 + 10) = (valB 16 (t.take (k + 1)) : Nat) by rw [HST.out, dv, HH.out]; omega)
          clear hx hlt dv d0 d1
          go_wp2_with (go_at_call 62; refine (LW.out _).mono ?_; rintro e w' ⟨rfl, rfl⟩)
          all_goals exact ⟨⟨k + 1, a * 16 + ((c.toNat : Int) + 32 - 97 + 10), rfl, (by first | rfl | (congr 1; omega)), (by first | rfl | (congr 1; omega)), by omega, by omega, hov, HN⟩, by simp [intOf]; omega⟩
        · have HN := hide (show 255 < valB 16 t by have h1 := HL.out; have h2 := HST.out; have h3 := HH.out; rw [dv] at h2; omega)
          clear hx hlt dv d0 d1
          go_wp2_with (go_at_call 62; refine (LW.out _).mono ?_; rintro e w' ⟨rfl, rfl⟩)
          all_goals go_ret2
          all_goals exact ⟨_, _, rfl, rfl, by decide, by decide, fun h => absurd HN.out (by omega), fun _ => rfl⟩
    · obtain rfl : k = t.length := by omega
      have HN := hh.out
      rw [List.take_length] at HN
      have HN2 := hide HN
      clear HN hh
      go_wp2
      go_ret2
      exact ⟨_, _, rfl, rfl, a0, a1, fun _ => ⟨HN2.out, rfl⟩, fun h => absurd HN2.out (by omega)⟩
end Go.Proofs.YthnkkcamfcmhmaaDoor.Lx
