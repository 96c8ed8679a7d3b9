/-
  The laws of layer 12: large.
-/
import Derived.Test.YtgdpcdpkaaefbaaCl1
namespace Go.Proofs.Ytgdpcdpkaaefbaa.Cn
open Go.RowKit hiding Hid
open Go.Maps Go.Proofs.Ytgdpcdpkaaefbaa.Tx Go.Proofs.Ytgdpcdpkaaefbaa.Lx Go.Proofs.Ytgdpcdpkaaefbaa.Mp Go.Proofs.Ytgdpcdpkaaefbaa.Bits Go.Proofs.Ytgdpcdpkaaefbaa.Tr Go.Proofs.Ytgdpcdpkaaefbaa.Bm
set_option linter.unusedVariables false
set_option linter.unusedSimpArgs false
set_option maxRecDepth 100000

def bigV (v : Vl) : Bool := decide (5000 < v.t.length)
theorem any_on {l : List Vl} {i : Nat} {x : Vl} (hx : l[i]? = some x) (h : (l.take i).any bigV = false) (hb : bigV x = false) : (l.take (i + 1)).any bigV = false := by
  obtain ⟨hi, rfl⟩ := List.getElem?_eq_some_iff.1 hx
  rw [List.take_succ_eq_append_getElem hi, List.any_append, h]
  simp [hb]
theorem any_hit {l : List Vl} {i : Nat} {x : Vl} (hx : l[i]? = some x) (hb : bigV x = true) : l.any bigV = true := by
  obtain ⟨hi, rfl⟩ := List.getElem?_eq_some_iff.1 hx
  exact List.any_eq_true.2 ⟨_, List.getElem_mem hi, hb⟩
theorem big_no {l : List Vl} (h : l.any bigV = false) : ∀ v ∈ l, v.t.length ≤ 5000 := fun v hv => by
  rcases Nat.lt_or_ge 5000 v.t.length with h' | h'
  · rw [List.any_eq_true.2 ⟨v, hv, by simp [bigV, h']⟩] at h; cases h
  · exact h'
set_option maxHeartbeats 2000000 in
theorem large_at {w : World} {o : Option Addr} {cp : Nat} {l : List Vl} (hl : l.length ≤ 9223372036854775807) (ht : ∀ v ∈ l, v.t.length ≤ 9223372036854775807) (h1 : Cls w o (l.flatMap vC)) :
    Calls Try.prog 10 #[.slice o l.length cp] w fun e w' => e = .returned (.bool (l.any bigV)) ∧ w' = w := by
  have H1 := hide h1
  have HT := hide ht
  have hl' : (l.length : Int) ≤ 9223372036854775807 := by omega
  clear h1 ht hl
  go_enter Try.func10, Try.ntmps10
  go_wp2
  go_loop [3] (fun iv => ∃ i : Nat, i ≤ l.length ∧ iv = .int .i64 i ∧ Hid ((l.take i).any bigV = false)) (fun iv => l.length - (intOf iv).toNat)
  case atStart => exact ⟨0, Nat.zero_le _, rfl, hide (by simp)⟩
  case round =>
    obtain ⟨i, hi, rfl, HA⟩ := hrel
    by_cases hlt : i < l.length
    · have j1 : (i : Int) < l.length := by omega
      have j2 : (i : Int) + 1 ≤ 9223372036854775807 := by omega
      obtain ⟨x, hx⟩ : ∃ x, l[i]? = some x := ⟨l[i], List.getElem?_eq_getElem hlt⟩
      obtain ⟨ad, rfl, hel⟩ := H1.out.el vC_len (by decide) hx
      obtain ⟨P, hP⟩ : ∃ P, ad.add (i * 3) = P := ⟨_, rfl⟩
      rw [hP] at hel
      have x2 := hel 2 (.string (bs x.t)) rfl
      rw [Addr.add_succ'] at x2
      have hxl := HT.out x (List.mem_of_getElem? hx)
      have HX := hide hx
      have hsz := bs_size x.t
      have hxl' : (x.t.length : Int) ≤ 9223372036854775807 := by omega
      clear hel hx hxl
      by_cases hb : 5000 < x.t.length
      · have HB := hide (show l.any bigV = true from any_hit HX.out (by simp [bigV, hb]))
        have b1 : (5000 : Int) < x.t.length := by omega
        clear hb
        go_wp2
        go_ret
        refine ⟨?_, rfl⟩
        rw [HB.out]
        rfl
      · have HN := hide (any_on HX.out HA.out (by simp [bigV]; omega))
        have b1 : ¬ (5000 : Int) < x.t.length := by omega
        clear hb
        go_wp2
        exact ⟨⟨i + 1, by omega, by go_num, HN⟩, by simp [intOf]; omega⟩
    · have j1 : ¬ (i : Int) < l.length := by omega
      go_wp2
      go_ret
      refine ⟨?_, rfl⟩
      have := HA.out
      rw [List.take_of_length_le (by omega)] at this
      rw [this]
      rfl
end Go.Proofs.Ytgdpcdpkaaefbaa.Cn
