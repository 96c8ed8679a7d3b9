/-
  The document's own tokens (package spinetref09): Text.
-/
import Derived.Test.YthnkkcamfcmhmaaDoorLr14
namespace Go.Proofs.YthnkkcamfcmhmaaDoor.Lx
open Go.RowKit Go.Proofs.YthnkkcamfcmhmaaDoor.Tx
set_option linter.unusedVariables false
set_option linter.unusedSimpArgs false
set_option maxRecDepth 100000

theorem take_all {ts : List Tk} {i : Nat} {x : Tk} (hx : ts[i]? = some x) (h : ∀ t ∈ ts.take i, goodT t = true) (hg : goodT x = true) : ∀ t ∈ ts.take (i + 1), goodT t = true := by
  obtain ⟨hi, rfl⟩ := List.getElem?_eq_some_iff.1 hx
  rw [List.take_succ_eq_append_getElem hi]
  intro t ht
  rcases List.mem_append.1 ht with h' | h'
  · exact h t h'
  · have : t = ts[i] := by simpa using h'
    rw [this]; exact hg
theorem row_g {w W W1 : World} {v : Value} {n : Nat} {xs : List Value} (h : w.grownBy W none) (hl : ∀ k, v.ownBlock = some k → w.heap.size ≤ k) (hg : W.grownBy W1 v.ownBlock) : w.grownBy W1 none :=
  h.andThen hg (fun j hj => .inl (hl j hj))
theorem textT_many {ts : List Tk} (h : 6000 < ts.length) : textT ts = ([], 3) := by unfold textT; rw [if_pos h]
theorem textT_bad {ts : List Tk} {i : Nat} {x : Tk} (h : ¬ 6000 < ts.length) (hx : ts[i]? = some x) (hg : goodT x = false) : textT ts = ([], 1) := by
  unfold textT
  rw [if_neg h, if_neg]
  intro ha
  obtain ⟨hi, rfl⟩ := List.getElem?_eq_some_iff.1 hx
  have := List.all_eq_true.1 ha _ (List.getElem_mem hi)
  rw [hg] at this
  cases this
theorem textT_good {ts : List Tk} (h : ¬ 6000 < ts.length) (ha : ∀ t ∈ ts, goodT t = true) : textT ts = if 16384 < (joinT ts).length then ([], 2) else (joinT ts, 0) := by
  unfold textT
  rw [if_neg h, if_pos (List.all_eq_true.2 ha)]
theorem join_first {ts : List Tk} {m : Nat} {x : Tk} (h : m = 0) (hx : ts[m]? = some x) : joinT (ts.take (m + 1)) = oneS x := by
  subst h
  cases ts with
  | nil => simp at hx
  | cons u us =>
    have : u = x := by simpa using hx
    subst this
    simp [joinT]
theorem join_next {ts : List Tk} {m : Nat} {x : Tk} (h : m ≠ 0) (hx : ts[m]? = some x) : joinT (ts.take (m + 1)) = (joinT (ts.take m) ++ [32]) ++ oneS x := by
  obtain ⟨hi, rfl⟩ := List.getElem?_eq_some_iff.1 hx
  rw [List.take_succ_eq_append_getElem hi, joinT_snoc]
  intro e
  have := congrArg List.length e
  rw [List.length_take, List.length_nil] at this
  omega
end Go.Proofs.YthnkkcamfcmhmaaDoor.Lx
