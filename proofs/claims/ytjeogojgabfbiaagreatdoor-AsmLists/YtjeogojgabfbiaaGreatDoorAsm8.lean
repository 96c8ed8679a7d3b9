/-
  What the document's own cut does.
-/
import Derived.Test.YtjeogojgabfbiaaGreatDoorAsm7
import Derived.Laws.Strings
import Derived.Laws.Strings2
import Derived.Laws.Strings3
namespace Go.Proofs.YtjeogojgabfbiaaGreatDoor.Asm
open Go.RowKit Go.Proofs.YtjeogojgabfbiaaGreatDoor.Bits Go.Proofs.YtjeogojgabfbiaaGreatDoor.Gw Go.Proofs.YtjeogojgabfbiaaGreatDoor.Risc Go.Proofs.YtjeogojgabfbiaaGreatDoor.Tx
set_option linter.unusedVariables false
set_option linter.unusedSimpArgs false
set_option maxRecDepth 100000

theorem bs_ext (l : List UInt8) (a b : Nat) : (bs l).extract a b = bs ((l.drop a).take (b - a)) := ByteArray.extract_mk l a b
theorem bs_list (l : List UInt8) : (bs l).toList = l := by rw [ByteArray.toList_eq]; simp [bs]
theorem test_ext (s d : List UInt8) (i : Nat) : (((bs s).extract i (i + d.length)).toList == (bs d).toList) = ((s.drop i).take d.length == d) := by
  rw [bs_ext, bs_list, bs_list, Nat.add_sub_cancel_left]
/- The first place of d in s is not ahead of i. -/
def Nv (s d : List UInt8) (i : Nat) : Prop := cutF d s = (cutF d (s.drop i)).map fun p => (s.take i ++ p.1, p.2)
theorem Nv.zero (s d : List UInt8) : Nv s d 0 := by
  unfold Nv
  cases h : cutF d s <;> simp [h]
theorem pre_iff (d l : List UInt8) : d.isPrefixOf l = (l.take d.length == d) := by
  rw [Bool.eq_iff_iff]
  simp only [List.isPrefixOf_iff_prefix, beq_iff_eq]
  constructor
  · rintro ⟨t, rfl⟩; simp
  · intro h; have := List.take_append_drop d.length l; rw [h] at this; exact ⟨_, this⟩
theorem Nv.succ {s d : List UInt8} {i : Nat} (h : Nv s d i) (hi : i < s.length) (hp : ((s.drop i).take d.length == d) = false) : Nv s d (i + 1) := by
  have e : s.drop i = s[i] :: s.drop (i + 1) := List.drop_eq_getElem_cons hi
  have et : s.take (i + 1) = s.take i ++ [s[i]] := (List.take_succ_eq_append_getElem hi)
  unfold Nv at h ⊢
  have hne : ¬ d.isPrefixOf (s[i] :: s.drop (i + 1)) = true := by rw [← e, pre_iff, hp]; decide
  rw [h, e, cutF, if_neg hne, et]
  cases cutF d (s.drop (i + 1)) with
  | none => rfl
  | some p => simp only [Option.map_some, List.append_assoc, List.singleton_append]
theorem cutF_short (d : List UInt8) : ∀ l : List UInt8, l.length < d.length → cutF d l = none
  | [], h => by
    rw [cutF, if_neg (by rintro rfl; simp at h)]
  | c :: l, h => by
    rw [cutF, if_neg (by rw [pre_iff]; simp only [beq_iff_eq]; intro e; have := congrArg List.length e; simp at this h; omega), cutF_short d l (by simp at h; omega)]
    rfl
theorem cutF_here {s d : List UInt8} {i : Nat} (d0 : 1 ≤ d.length) (hp : ((s.drop i).take d.length == d) = true) : cutF d (s.drop i) = some ([], (s.drop i).drop d.length) := by
  cases h : s.drop i with
  | nil => rw [h] at hp; simp at hp; subst hp; simp at d0
  | cons c l => rw [cutF, if_pos (by rw [pre_iff, ← h]; exact hp)]
theorem Nv.here {s d : List UInt8} {i : Nat} (h : Nv s d i) (d0 : 1 ≤ d.length) (hp : ((s.drop i).take d.length == d) = true) : cut1 s d = s.take i ∧ cut2 s d = s.drop (i + d.length) ∧ cutB s d = true := by
  have e : cutF d s = some (s.take i, s.drop (i + d.length)) := by rw [h, cutF_here d0 hp]; simp
  exact ⟨by rw [cut1, e], by rw [cut2, e], by rw [cutB, e]; rfl⟩
theorem Nv.no {s d : List UInt8} {i : Nat} (h : Nv s d i) (hp : s.length < i + d.length) (hi : i ≤ s.length) : cut1 s d = s ∧ cut2 s d = [] ∧ cutB s d = false := by
  have e : cutF d s = none := by rw [h, cutF_short d _ (by simp; omega)]; rfl
  exact ⟨by rw [cut1, e], by rw [cut2, e], by rw [cutB, e]; rfl⟩
set_option maxHeartbeats 1000000 in
theorem cut_any (s d : List UInt8) (hs : s.length ≤ 1000000) (d0 : 1 ≤ d.length) (d1 : d.length ≤ 1000) (w : World) :
    Calls Tryz.prog 26 #[.string (bs s), .string (bs d)] w fun e w' => e = .returned (.tuple #[.string (bs (cut1 s d)), .string (bs (cut2 s d)), .bool (cutB s d)]) ∧ ∃ n, w' = w.drewN n := by
  have l1 : (bs s).size = s.length := rfl
  have l2 : (bs d).size = d.length := rfl
  have z0 : (0 : Int) ≤ (d.length : Int) := by omega
  have z1 : (d.length : Int) ≤ 1000 := by omega
  have z2 : (s.length : Int) ≤ 1000000 := by omega
  go_enter Tryz.func26, Tryz.ntmps26
  go_wp2
  go_loopw [7] (fun j wr => ∃ i : Nat, j = .int .i64 i ∧ i ≤ s.length ∧ Nv s d i ∧ wr = w) (fun j _ => s.length - (intOf j).toNat)
  case atStart => exact ⟨0, rfl, Nat.zero_le _, Nv.zero s d, rfl⟩
  case round =>
    obtain ⟨i, rfl, hi, hn, rfl⟩ := hrel
    have HN := hide hn
    clear hn
    by_cases hlt : i + d.length ≤ s.length
    · have i1 : (i : Int) + (d.length : Int) ≤ (s.length : Int) := by omega
      have i0 : (0 : Int) ≤ (i : Int) := by omega
      have i2 : (i : Int) ≤ (s.length : Int) := by omega
      have ht := test_ext s d i
      cases hp : ((s.drop i).take d.length == d)
      · rw [hp] at ht
        have HS := hide (HN.out.succ (by omega) hp)
        clear hp
        go_wp2
        exact ⟨⟨i + 1, by go_num, by omega, HS.out, trivial⟩, by simp [intOf]; omega⟩
      · rw [hp] at ht
        have HS := hide (HN.out.here d0 hp)
        clear hp
        go_wp2
        go_quiet (fail)
        go_wp2
        refine bodyPost_ret (v := .tuple #[.string ((bs s).extract 0 i), .string ((bs s).extract (i + d.length) s.length), .bool true]) (by simp [results, Tryz.results26, go_sem]) rfl ?_
        refine ⟨?_, nq, rfl⟩
        have e1 : (bs s).extract 0 i = bs (s.take i) := by rw [bs_ext]; simp
        have e2 : (bs s).extract (i + d.length) s.length = bs (s.drop (i + d.length)) := by rw [bs_ext, List.take_of_length_le (by simp)]
        rw [e1, e2, HS.out.1, HS.out.2.1, HS.out.2.2]
    · have i1 : ¬ (i : Int) + (d.length : Int) ≤ (s.length : Int) := by omega
      have HS := hide (HN.out.no (by omega) hi)
      go_wp2
      refine bodyPost_ret (v := .tuple #[.string (bs s), .string (bs []), .bool false]) (by simp [results, Tryz.results26, go_sem]; rfl) rfl ?_
      exact ⟨by rw [HS.out.1, HS.out.2.1, HS.out.2.2], 0, rfl⟩
end Go.Proofs.YtjeogojgabfbiaaGreatDoor.Asm
