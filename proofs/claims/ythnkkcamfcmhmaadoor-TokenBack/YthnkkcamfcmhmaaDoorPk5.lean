/-
  Package token: the classes of bytes, the map of keywords, newTables.
-/
import Derived.Test.YthnkkcamfcmhmaaDoorPk3
import Derived.Deep.WholeRow
import Derived.Laws.ResultCell
namespace Go.Proofs.YthnkkcamfcmhmaaDoor.Lx
open Go.RowKit Go.Maps Go.Proofs.YthnkkcamfcmhmaaDoor.Tx Go.Proofs.YthnkkcamfcmhmaaDoor.Mp
set_option linter.unusedVariables false
set_option linter.unusedSimpArgs false
set_option maxRecDepth 100000

/- The map of keywords. -/
def kwT : List UInt8 := (keys.intersperse [32]).flatten
theorem kw_fields : Lib.fields kwT = keys := by decide +kernel
theorem kw_ascii : ∀ (j : Nat) (b : UInt8), kwT[j]? = some b → b.toNat < 128 := by
  have h : kwT.all (fun b => decide (b.toNat < 128)) = true := by decide +kernel
  intro j b hb
  have := List.all_eq_true.1 h b (List.mem_of_getElem? hb)
  simpa using this
theorem kw_len : kwT.length < 1000 := by decide +kernel
theorem keys_n : keys.length = 33 := rfl
theorem fields_at (w : World) (A : Gt w) : Calls Tryd.prog 43 #[.string (bs kwT)] w fun e w' => e = .returned (.slice (some ⟨w.heap.size, 0, none⟩) 33 33) ∧ w' = w.alloc (.cells (keys.map (fun k => Value.string (bs k))).toArray 9) := by
  have h := Tryd.strings_Fields (bs kwT) w (by rw [bs_size]; have := kw_len; omega) (fun j b hb => kw_ascii j b hb) A.space
  rw [show (bs kwT).data.toList = kwT from rfl, kw_fields] at h
  exact h
def keyN (i : Nat) : List UInt8 := (keys[i]?).getD []
theorem keyPs_take (i : Nat) (h : i < 33) : keyPs.take (i + 1) = keyPs.take i ++ [(.string (bs (keyN i)), .int .i64 2)] := by
  have hl : i < keyPs.length := by simp [keyPs, keys_n]; omega
  rw [List.take_succ_eq_append_getElem hl]
  have : i < keys.length := by rw [keys_n]; exact h
  simp [keyPs, keyN, this]
theorem keyN_len (i : Nat) (h : i < 33) : (keyN i).length ≤ 9 := by
  have h2 := keys_len _ (List.getElem_mem (show i < keys.length from h))
  simpa [keyN, show i < keys.length from h] using h2
set_option maxHeartbeats 4000000 in
theorem kinds_at (w : World) (A : Gt w) : Calls Tryd.prog 27 #[] w fun e w' => ∃ mb, e = .returned (.map (some mb)) ∧ MapL Tryd.prog 9 w' mb keyPs ∧ w.grownBy w' none := by
  have hmk := fun W => run_makeMap (P := Tryd.prog) 65 W
  have HF := hide (fields_at (w.alloc (.map #[] 0)) (A.g (alloc_g _ _)))
  clear A
  obtain ⟨V, hV⟩ : ∃ V, (w.alloc (.map #[] 0)).alloc (.cells (keys.map (fun k => Value.string (bs k))).toArray 9) = V := ⟨_, rfl⟩
  rw [hV] at HF
  have HAt := hide (show AtT V (w.heap.size + 1) keys by rw [← hV]; have := atT_new (w.alloc (.map #[] 0)) keys 9; rwa [show (w.alloc (.map #[] 0)).heap.size = w.heap.size + 1 by simp] at this)
  rw [show (w.alloc (.map #[] 0)).heap.size = w.heap.size + 1 by simp] at HF
  have HM := hide (show MapL Tryd.prog 9 V w.heap.size [] by rw [← hV]; exact (MapL.made 9 w).kept (alloc_g _ _) (by simp))
  have HG0 := hide (show w.grownBy V none by rw [← hV]; exact two_g _ _ _)
  have hkw : bs kwT = bs kwT := rfl
  go_enter Tryd.func27, Tryd.ntmps27
  go_wp2_with (go_at_call 43; refine HF.out.mono ?_; rintro e w' ⟨rfl, hw⟩; replace hw := hw.symm; subst hw)
  go_loopw [3, 7] (fun tv iv W => ∃ (i : Nat) (t : Value), i ≤ 33 ∧ iv = .int .i64 i ∧ tv = t ∧ Hid (w.grownBy W none) ∧ Hid (V.grownBy W (some w.heap.size)) ∧ Hid (MapL Tryd.prog 9 W w.heap.size (keyPs.take i))) (fun _ iv _ => 33 - (intOf iv).toNat)
  case atStart => exact ⟨0, _, Nat.zero_le _, rfl, rfl, HG0, hide ⟨rfl, rfl, rfl, Nat.le_refl _, fun _ _ _ => rfl⟩, HM⟩
  case round =>
    obtain ⟨i, tv, hi, rfl, rfl, HG, HB, HL⟩ := hrel
    by_cases hlt : i < 33
    · have j1 : (i : Int) < 33 := by omega
      have hc : wr.cell? ⟨w.heap.size + 1, i, none⟩ = some (.string (bs (keyN i))) := by
        have h1 := HAt.out i (show i < keys.length from hlt)
        have h2 : keys[i]'(show i < keys.length from hlt) = keyN i := by simp [keyN, show i < keys.length from hlt]
        rw [h2] at h1
        have h3 := HB.out.block (w.heap.size + 1) (block_lt_of_cell h1) (by simp)
        rw [← h1]
        simp [World.cell?, h3]
      have hkl := keyN_len i hlt
      obtain ⟨W', hup, hml, hgr⟩ := HL.out.update LKs Tryd.underlying65 (by rw [List.length_take]; omega) (isK_str (s := keyN i) (by unfold maxLen; omega)) (val := .int .i64 2)
      rw [← keyPs_take i hlt] at hml
      have HM2 := hide hml
      have HG2 := hide (grown_own HG.out (Nat.le_refl _) hgr)
      have HB2 := hide (then_g HB.out hgr)
      clear hml hgr
      go_wp2
      go_roundw
      case rel => exact ⟨i + 1, _, by omega, by go_num, rfl, HG2, HB2, HM2⟩
      case measure => simp [intOf]; omega
    · obtain rfl : i = 33 := by omega
      go_wp2
      go_ret
      refine ⟨w.heap.size, rfl, ?_, HG.out⟩
      have := HL.out
      rwa [List.take_of_length_le (by simp [keyPs, keys_n])] at this
end Go.Proofs.YthnkkcamfcmhmaaDoor.Lx
