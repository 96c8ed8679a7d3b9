/-
  The document's own tokens (package spinetref09): letter, digit, hexa, among, Key, Sign, comment, skip.
-/
import Derived.Test.YthnkkcamfcmhmaaDoorProg
import Derived.Test.YthnkkcamfcmhmaaDoorLx1
import Derived.WalkKit
import Derived.ProofKit
import Derived.Deep.QuietTactic
import Derived.BigQuiet
import Derived.Deep.Cut
import Derived.RegionTactic
import Derived.Laws.Cover1
import Derived.Lib.SmallJoins
import Derived.Maps.OwnSet
namespace Go.Proofs.YthnkkcamfcmhmaaDoor.Lx
open Go.RowKit Go.Proofs.YthnkkcamfcmhmaaDoor.Tx
set_option linter.unusedVariables false
set_option linter.unusedSimpArgs false
set_option maxRecDepth 100000

structure Hid (p : Prop) : Prop where
  out : p
theorem hide {p : Prop} (h : p) : Hid p := ⟨h⟩
theorem letter_any (c : Int) (w : World) : Calls Tryd.prog 36 #[.int .u8 c] w fun e w' => e = .returned (.bool (ltI c)) ∧ w' = w := by
  unfold ltI
  by_cases h1 : 65 ≤ c <;> by_cases h2 : c ≤ 90 <;> by_cases h3 : 97 ≤ c <;> by_cases h4 : c ≤ 122
  all_goals first
    | (exfalso; omega)
    | (go_enter Tryd.func36, Tryd.ntmps36
       go_wp2
       go_ret
       exact ⟨by simp [h1, h2, h3, h4], rfl⟩)
theorem digit_any (c : Int) (w : World) : Calls Tryd.prog 37 #[.int .u8 c] w fun e w' => e = .returned (.bool (digI c)) ∧ w' = w := by
  unfold digI
  by_cases h1 : 48 ≤ c <;> by_cases h2 : c ≤ 57
  all_goals first
    | (exfalso; omega)
    | (go_enter Tryd.func37, Tryd.ntmps37
       go_wp2
       go_ret
       exact ⟨by simp [h1, h2], rfl⟩)
theorem hexa_any (c : Int) (w : World) : Calls Tryd.prog 50 #[.int .u8 c] w fun e w' => e = .returned (.bool (hexI c)) ∧ w' = w := by
  unfold hexI
  cases hd : digI c
  · by_cases h1 : 65 ≤ c <;> by_cases h2 : c ≤ 70
    all_goals first
      | (exfalso; omega)
      | (go_enter Tryd.func50, Tryd.ntmps50
         go_wp2_with (go_at_call 37; refine (digit_any _ _).mono ?_; rw [hd]; rintro e w' ⟨rfl, hw⟩; replace hw := hw.symm; subst hw)
         go_ret
         exact ⟨by simp [h1, h2], rfl⟩)
  · go_enter Tryd.func50, Tryd.ntmps50
    go_wp2_with (go_at_call 37; refine (digit_any _ _).mono ?_; rw [hd]; rintro e w' ⟨rfl, hw⟩; replace hw := hw.symm; subst hw)
    go_ret
    exact ⟨by simp, rfl⟩
theorem bs_toList (l : List UInt8) : (bs l).toList = l := by rw [ByteArray.toList_eq]; simp [bs]
theorem bs_eqB (a b : List UInt8) : ((bs a).toList == (bs b).toList) = (a == b) := by rw [bs_toList, bs_toList]
theorem bs_ext (l : List UInt8) (a b : Nat) : (bs l).extract a b = bs ((l.drop a).take (b - a)) := ByteArray.extract_mk l a b
/- Texts that lie at an address. -/
def AtT (w : World) (ad : Nat) (l : List (List UInt8)) : Prop := ∀ (j : Nat) (h : j < l.length), w.cell? ⟨ad, j, none⟩ = some (.string (bs l[j]))
theorem atT_new (w : World) (l : List (List UInt8)) (e : TypeId) : AtT (w.alloc (.cells (l.map (fun k => Value.string (bs k))).toArray e)) w.heap.size l := fun j h => by
  rw [cell_of_row _ _ _ _ _ _ (heap_alloc_new _ _)]
  simp [h]
set_option maxHeartbeats 1000000 in
theorem among_any (s : List UInt8) (l : List (List UInt8)) (w : World) (ad cp : Nat) (hl : l.length ≤ 1000) (ha : AtT w ad l) :
    Calls Tryd.prog 49 #[.string (bs s), .slice (some ⟨ad, 0, none⟩) l.length cp] w fun e w' => e = .returned (.bool (hasT l s)) ∧ w' = w := by
  have HA := hide ha
  have hl' : (l.length : Int) ≤ 1000 := by omega
  clear ha
  go_enter Tryd.func49, Tryd.ntmps49
  go_wp2
  go_loop [5] (fun iv => ∃ i : Nat, i ≤ l.length ∧ iv = .int .i64 i ∧ Hid (s ∉ l.take i)) (fun iv => l.length - (intOf iv).toNat)
  case atStart => exact ⟨0, Nat.zero_le _, rfl, hide (by simp)⟩
  case round =>
    obtain ⟨i, hi, rfl, HC⟩ := hrel
    by_cases hlt : i < l.length
    · have j1 : (i : Int) < l.length := by omega
      have hc := HA.out i hlt
      have hq := bs_eqB l[i] s
      have HT := hide (List.take_succ_eq_append_getElem hlt)
      cases hb : (l[i] == s)
      · rw [hb] at hq
        have HB := hide hb
        clear hb
        go_wp2
        exact ⟨⟨i + 1, by omega, by go_num, hide (by
          rw [HT.out]
          intro hm
          rcases List.mem_append.1 hm with h | h
          · exact HC.out h
          · have e : s = l[i] := by simpa using h
            have h2 : ¬ l[i] = s := by simpa using HB.out
            exact h2 e.symm)⟩, by simp [intOf]; omega⟩
      · rw [hb] at hq
        have HB := hide hb
        clear hb
        go_wp2
        go_ret
        refine ⟨?_, rfl⟩
        have : l[i] = s := by simpa using HB.out
        have h2 : hasT l s = true := by unfold hasT; rw [← this]; simp
        rw [h2]
        rfl
    · obtain rfl : i = l.length := by omega
      go_wp2
      go_ret
      refine ⟨?_, rfl⟩
      have := HC.out
      rw [List.take_length] at this
      have h2 : hasT l s = false := by unfold hasT; simpa using this
      rw [h2]
      rfl
set_option maxHeartbeats 1000000 in
theorem key_any (s : List UInt8) (w : World) : Calls Tryd.prog 38 #[.string (bs s)] w fun e w' => e = .returned (.bool (keyB s)) ∧ w.grownBy w' none := by
  have hA := among_any s keys (w.alloc (.cells (keys.map (fun k => Value.string (bs k))).toArray 9)) w.heap.size 33 (by decide) (atT_new _ _ _)
  have HA := hide hA
  clear hA
  go_enter Tryd.func38, Tryd.ntmps38
  go_wp2_with (go_at_call 49; refine HA.out.mono ?_; rintro e w' ⟨rfl, hw⟩; replace hw := hw.symm; subst hw)
  go_ret
  exact ⟨rfl, ⟨rfl, rfl, rfl, by simp, fun i hi _ => heap_alloc_old _ _ hi⟩⟩
set_option maxHeartbeats 1000000 in
theorem sign_any (s : List UInt8) (w : World) : Calls Tryd.prog 40 #[.string (bs s)] w fun e w' => e = .returned (.bool (signB s)) ∧ w.grownBy w' none := by
  have hA := among_any s signs (w.alloc (.cells (signs.map (fun k => Value.string (bs k))).toArray 9)) w.heap.size 26 (by decide) (atT_new _ _ _)
  have HA := hide hA
  clear hA
  go_enter Tryd.func40, Tryd.ntmps40
  go_wp2_with (go_at_call 49; refine HA.out.mono ?_; rintro e w' ⟨rfl, hw⟩; replace hw := hw.symm; subst hw)
  go_ret
  exact ⟨rfl, ⟨rfl, rfl, rfl, by simp, fun i hi _ => heap_alloc_old _ _ hi⟩⟩
end Go.Proofs.YthnkkcamfcmhmaaDoor.Lx
