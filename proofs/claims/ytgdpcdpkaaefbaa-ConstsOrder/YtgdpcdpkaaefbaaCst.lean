/-
  The document's own tokens (package spinetref09): String.
-/
import Derived.Test.YtgdpcdpkaaefbaaProg
import Derived.Test.YtgdpcdpkaaefbaaLx1
import Derived.Test.YtgdpcdpkaaefbaaTk0
import Derived.WalkKit
import Derived.ProofKit
import Derived.Deep.QuietTactic
import Derived.BigQuiet
import Derived.Deep.Cut
import Derived.RegionTactic
import Derived.Laws.Cover1
import Derived.Lib.SmallJoins
namespace Go.Proofs.Ytgdpcdpkaaefbaa.Lx
open Go.RowKit Go.Proofs.Ytgdpcdpkaaefbaa.Tx
set_option linter.unusedVariables false
set_option linter.unusedSimpArgs false
set_option maxRecDepth 100000

def strB (s : List UInt8) : Bool := decide (s.length ≤ 64) && s.all strN
theorem strB_long {s : List UInt8} (h : 64 < s.length) : strB s = false := by unfold strB; rw [decide_eq_false (by omega)]; rfl
theorem strB_in {s : List UInt8} (h : ¬ 64 < s.length) : strB s = s.all strN := by unfold strB; rw [decide_eq_true (by omega)]; rfl
theorem all_not {f : UInt8 → Bool} {s : List UInt8} {q : Nat} {c : UInt8} (h : s[q]? = some c) (hf : f c = false) : s.all f = false := by
  obtain ⟨hq, rfl⟩ := List.getElem?_eq_some_iff.1 h
  rw [Bool.eq_false_iff]
  intro ha
  have := List.all_eq_true.1 ha _ (List.getElem_mem hq)
  rw [hf] at this
  cases this
theorem all_on {f : UInt8 → Bool} {s : List UInt8} {q : Nat} {c : UInt8} (h : s[q]? = some c) (ha : (s.take q).all f = true) (hf : f c = true) : (s.take (q + 1)).all f = true := by
  obtain ⟨hq, rfl⟩ := List.getElem?_eq_some_iff.1 h
  rw [List.take_succ_eq_append_getElem hq, List.all_append, ha]
  simp [hf]
set_option maxHeartbeats 2000000 in
theorem string_any (s : List UInt8) (w : World) (hs : s.length ≤ 9223372036854775807) : Calls Try.prog 34 #[.string (bs s)] w fun e w' => e = .returned (.bool (strB s)) ∧ w' = w := by
  have hsz := bs_size s
  have hs' : (s.length : Int) ≤ 9223372036854775807 := by omega
  by_cases h64 : 64 < s.length
  · have k1 : (64 : Int) < s.length := by omega
    go_enter Try.func34, Try.ntmps34
    go_wp2
    go_ret
    refine ⟨?_, rfl⟩
    rw [strB_long h64]
    rfl
  · have k1 : ¬ (64 : Int) < s.length := by omega
    go_enter Try.func34, Try.ntmps34
    go_wp2
    go_loop [3] (fun iv => ∃ i : Nat, i ≤ s.length ∧ iv = .int .i64 i ∧ Hid ((s.take i).all strN = true)) (fun iv => s.length - (intOf iv).toNat)
    case atStart => exact ⟨0, Nat.zero_le _, rfl, hide (by simp)⟩
    case round =>
      obtain ⟨q, hq, rfl, HH⟩ := hrel
      by_cases hlt : q < s.length
      · have j1 : (q : Int) < s.length := by omega
        obtain ⟨c2, hc2⟩ : ∃ c, s[q] = c := ⟨_, rfl⟩
        have hb : ∀ h, (bs s)[q]'h = c2 := fun h => hc2
        have HSq := hide (show s[q]? = some c2 by rw [List.getElem?_eq_getElem hlt, hc2])
        obtain ⟨C, hC⟩ : ∃ C : Int, (c2.toNat : Int) = C := ⟨_, rfl⟩
        have HCc := hide hC
        clear hc2
        by_cases h32 : C < 32
        · have HS := hide (show strN c2 = false by simp [strN]; omega)
          go_wp2
          go_ret
          refine ⟨?_, rfl⟩
          rw [strB_in h64, all_not HSq.out HS.out]; rfl
        · by_cases h34 : C = 34
          · have n34 : (C == 34) = true := by rw [h34]; rfl
            have hc34 : c2 = 34 := UInt8.toNat_inj.1 (by show c2.toNat = 34; omega)
            have HS := hide (show strN c2 = false by rw [hc34]; decide)
            clear hc34
            go_wp2
            go_ret
            refine ⟨?_, rfl⟩
            rw [strB_in h64, all_not HSq.out HS.out]; rfl
          · have n34 : (C == 34) = false := by simpa using h34
            have HS := hide (show strN c2 = true by simp [strN]; constructor; omega; intro e; apply h34; rw [← hC, e]; rfl)
            go_wp2
            exact ⟨⟨q + 1, by omega, by go_num, hide (all_on HSq.out HH.out HS.out)⟩, by simp [intOf]; omega⟩
      · obtain rfl : q = s.length := by omega
        go_wp2
        go_ret
        refine ⟨?_, rfl⟩
        have := HH.out
        rw [List.take_length] at this
        rw [strB_in h64, this]
        rfl
end Go.Proofs.Ytgdpcdpkaaefbaa.Lx
