/-
  The law's own 'large': too many tokens, or a text that is too long.
-/
import Derived.Test.YthnkkcamfcmhmaaGreatDoorTkarg
namespace Go.Proofs.YthnkkcamfcmhmaaGreatDoor.Lx
open Go.RowKit Go.Proofs.YthnkkcamfcmhmaaGreatDoor.Tx
set_option linter.unusedVariables false
set_option linter.unusedSimpArgs false
set_option maxRecDepth 100000

def bigT (t : Tk) : Bool := decide (200 < t.t.length)
def largeB (ts : List Tk) : Bool := decide (7000 < ts.length) || ts.any bigT
theorem large_no {ts : List Tk} (h : largeB ts = false) : ts.length ≤ 7000 ∧ ∀ t ∈ ts, t.t.length ≤ 200 := by
  simp only [largeB, Bool.or_eq_false_iff, decide_eq_false_iff_not] at h
  refine ⟨by omega, fun t ht => ?_⟩
  have h2 := h.2
  rw [Bool.eq_false_iff] at h2
  rcases Nat.lt_or_ge 200 t.t.length with h' | h'
  · exact absurd (List.any_eq_true.2 ⟨t, ht, by simp [bigT, h']⟩) h2
  · exact h'
theorem any_on {ts : List Tk} {i : Nat} {x : Tk} (hx : ts[i]? = some x) (h : (ts.take i).any bigT = false) (hb : bigT x = false) : (ts.take (i + 1)).any bigT = false := by
  obtain ⟨hi, rfl⟩ := List.getElem?_eq_some_iff.1 hx
  rw [List.take_succ_eq_append_getElem hi, List.any_append, h]
  simp [hb]
theorem any_hit {ts : List Tk} {i : Nat} {x : Tk} (hx : ts[i]? = some x) (hb : bigT x = true) : ts.any bigT = true := by
  obtain ⟨hi, rfl⟩ := List.getElem?_eq_some_iff.1 hx
  exact List.any_eq_true.2 ⟨_, List.getElem_mem hi, hb⟩
set_option maxHeartbeats 2000000 in
theorem large_at (w : World) (o : Option Addr) (cp : Nat) (ts : List Tk) (hl : ts.length ≤ 9223372036854775807) (ht : ∀ t ∈ ts, t.t.length ≤ 9223372036854775807) (h1 : TkS w o ts) :
    Calls Tryz.prog 4 #[.slice o ts.length cp] w fun e w' => e = .returned (.bool (largeB ts)) ∧ w' = w := by
  have H1 := hide h1
  have HT := hide ht
  have hl' : (ts.length : Int) ≤ 9223372036854775807 := by omega
  clear h1 ht hl
  by_cases h7 : 7000 < ts.length
  · have HE := hide (show largeB ts = true by simp [largeB, h7])
    have k1 : (7000 : Int) < ts.length := by omega
    go_enter Tryz.func4, Tryz.ntmps4
    go_wp2
    go_ret
    refine ⟨?_, rfl⟩
    rw [HE.out]
    rfl
  have HE := hide (show largeB ts = ts.any bigT by simp [largeB, h7])
  have k1 : ¬ (7000 : Int) < ts.length := by omega
  have k2 : (ts.length : Int) ≤ 7000 := by omega
  clear h7 hl'
  go_enter Tryz.func4, Tryz.ntmps4
  go_wp2
  go_loop [3] (fun iv => ∃ i : Nat, i ≤ ts.length ∧ iv = .int .i64 i ∧ Hid ((ts.take i).any bigT = false)) (fun iv => ts.length - (intOf iv).toNat)
  case atStart => exact ⟨0, Nat.zero_le _, rfl, hide (by simp)⟩
  case round =>
    obtain ⟨i, hi, rfl, HA⟩ := hrel
    by_cases hlt : i < ts.length
    · have j1 : (i : Int) < ts.length := by omega
      obtain ⟨A1, rfl⟩ : ∃ ad, o = some ad := by
        cases o with
        | none => have := H1.out.nil' rfl; omega
        | some ad => exact ⟨ad, rfl⟩
      obtain ⟨P, hP⟩ : ∃ P, A1.add (i * 4) = P := ⟨_, rfl⟩
      have t1 := H1.out.at' A1 rfl i hlt
      rw [hP] at t1
      obtain ⟨x, hx⟩ : ∃ x, ts[i] = x := ⟨_, rfl⟩
      have hxl : x.t.length ≤ 9223372036854775807 := by rw [← hx]; exact HT.out _ (List.getElem_mem hlt)
      rw [hx] at t1
      have HX := hide (show ts[i]? = some x by rw [List.getElem?_eq_getElem hlt, hx])
      obtain ⟨x0, x1, x2, x3⟩ := four_of' t1
      have hsz := bs_size x.t
      have hxl' : (x.t.length : Int) ≤ 9223372036854775807 := by omega
      clear t1 hx hxl
      by_cases hb : 200 < x.t.length
      · have HB := hide (show ts.any bigT = true from any_hit HX.out (by simp [bigT, hb]))
        have b1 : (200 : Int) < x.t.length := by omega
        go_wp2
        go_ret
        refine ⟨?_, rfl⟩
        rw [HE.out, HB.out]
        rfl
      · have HN := hide (any_on HX.out HA.out (by simp [bigT]; omega))
        have b1 : ¬ (200 : Int) < x.t.length := by omega
        go_wp2
        exact ⟨⟨i + 1, by omega, by go_num, HN⟩, by simp [intOf]; omega⟩
    · have j1 : ¬ (i : Int) < ts.length := by omega
      go_wp2
      go_ret
      refine ⟨?_, rfl⟩
      have := HA.out
      rw [List.take_of_length_le (by omega)] at this
      rw [HE.out, this]
      rfl
end Go.Proofs.YthnkkcamfcmhmaaGreatDoor.Lx
