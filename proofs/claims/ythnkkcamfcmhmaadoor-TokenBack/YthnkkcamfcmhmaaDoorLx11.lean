/-
  Blanks in one go, prefixes; signs as the first of a row that a text begins with: purely.
-/
import Derived.Test.YthnkkcamfcmhmaaDoorLx10
namespace Go.Proofs.YthnkkcamfcmhmaaDoor.Lx
open Go.RowKit Go.Proofs.YthnkkcamfcmhmaaDoor.Tx
set_option linter.unusedVariables false
set_option linter.unusedSimpArgs false
set_option maxRecDepth 100000

theorem skP_run : ∀ x : List UInt8, skP x = ((skP (x.drop (x.takeWhile blkN).length)).1 + (x.takeWhile blkN).length, (skP (x.drop (x.takeWhile blkN).length)).2)
  | [] => rfl
  | c :: r => by
    cases h : blkN c
    · rw [List.takeWhile_cons, if_neg (by simp [h])]
      rfl
    · rw [List.takeWhile_cons, if_pos h, skP_blank h, skP_run r]
      simp only [List.length_cons, List.drop_succ_cons, Nat.add_assoc]
theorem drop_tw (p : UInt8 → Bool) : ∀ (x : List UInt8) (c : UInt8) (r : List UInt8), x.drop (x.takeWhile p).length = c :: r → p c = false
  | [], c, r, h => by simp at h
  | d :: x, c, r, h => by
    cases hd : p d
    · rw [List.takeWhile_cons, if_neg (by simp [hd])] at h
      simp at h
      rw [← h.1]; exact hd
    · rw [List.takeWhile_cons, if_pos hd] at h
      simp only [List.length_cons, List.drop_succ_cons] at h
      exact drop_tw p x c r h
theorem bq (a b : UInt8) : (a == b) = (b == a) := by
  rw [Bool.eq_iff_iff]
  simp only [beq_iff_eq]
  exact ⟨Eq.symm, Eq.symm⟩
def preB (p y : List UInt8) : Bool := p.isPrefixOf y
theorem pre_one (c : UInt8) (y : List UInt8) : preB [c] y = (y.head? == some c) := by
  cases y with
  | nil => rfl
  | cons d y => simp [preB, List.isPrefixOf, bq c d]
theorem pre_two (c d : UInt8) (y : List UInt8) : preB [c, d] y = ((y.head? == some c) && (y.tail.head? == some d)) := by
  match y with
  | [] => rfl
  | [a] => simp [preB, List.isPrefixOf]
  | a :: b :: r => simp [preB, List.isPrefixOf, bq c a, bq d b]
theorem pre_cm (y : List UInt8) : preB [40, 42] y = cmB y := by
  unfold preB
  match y with
  | [] => rfl
  | [a] => simp [cmB, List.isPrefixOf]
  | a :: b :: r =>
    simp only [List.isPrefixOf, cmB, Bool.and_true]
    rw [bq 40 a, bq 42 b]
theorem skP_no {y : List UInt8} (h : ∀ c r, y = c :: r → blkN c = false) (hc : cmB y = false) : skP y = (0, true) := by
  cases y with
  | nil => rfl
  | cons c r => exact skP_stop (h c r rfl) hc
theorem skP_open {y : List UInt8} (h : ∀ c r, y = c :: r → blkN c = false) (hc : cmB y = true) (hn : cmt 0 y = none) : skP y = (0, false) := by
  cases y with
  | nil => cases hc
  | cons c r => exact skP_none (h c r rfl) hc hn
theorem skP_shut {y : List UInt8} {k : Nat} (h : ∀ c r, y = c :: r → blkN c = false) (hc : cmB y = true) (hn : cmt 0 y = some k) : skP y = ((skP (y.drop k)).1 + k, (skP (y.drop k)).2) := by
  cases y with
  | nil => cases hc
  | cons c r => exact skP_cmt (h c r rfl) hc hn
/- A run of bytes at a text's beginning. -/
theorem run_pos (p : UInt8 → Bool) (c : UInt8) (r : List UInt8) : (0 < ((c :: r).takeWhile p).length) ↔ p c = true := by
  rw [List.takeWhile_cons]
  cases h : p c <;> simp
/- The first sign of the row that a text begins with. -/
def pick : List (List UInt8) → List UInt8 → Option (List UInt8)
  | [], _ => none
  | t :: ts, s => if t.isPrefixOf s = true then some t else pick ts s
theorem pick_take (ts : List (List UInt8)) (s : List UInt8) : ∀ i, i ≤ ts.length → (∀ t ∈ ts.take i, t.isPrefixOf s = false) → pick ts s = pick (ts.drop i) s := by
  induction ts with
  | nil => intro i hi _; simp
  | cons t ts ih =>
    intro i hi h
    cases i with
    | zero => rfl
    | succ i =>
      have h1 := h t (by simp)
      rw [pick, if_neg (by simp [h1]), List.drop_succ_cons]
      exact ih i (by simpa using hi) (fun u hu => h u (by simp [hu]))
theorem pick_at {ts : List (List UInt8)} {s : List UInt8} {i : Nat} {t : List UInt8} (hi : i < ts.length) (h : ∀ t ∈ ts.take i, t.isPrefixOf s = false) (ht : ts[i] = t) (hp : t.isPrefixOf s = true) : pick ts s = some t := by
  rw [pick_take ts s i (by omega) h, List.drop_eq_getElem_cons hi, pick, ht, if_pos hp]
theorem pick_none {ts : List (List UInt8)} {s : List UInt8} (h : ∀ t ∈ ts, t.isPrefixOf s = false) : pick ts s = none := by
  have := pick_take ts s ts.length (Nat.le_refl _) (by rwa [List.take_length])
  rw [this, List.drop_length]
  rfl
/- Texts of one length: the one that stands ahead. -/
theorem pre_take {k : Nat} {t s : List UInt8} (hk : t.length = k) : t.isPrefixOf s = true ↔ s.take k = t := by
  rw [List.isPrefixOf_iff_prefix, List.prefix_iff_eq_take, hk]
  exact ⟨fun h => h.symm, fun h => h.symm⟩
theorem pick_len (k : Nat) (s : List UInt8) : ∀ ts : List (List UInt8), (∀ t ∈ ts, t.length = k) → pick ts s = if hasT ts (s.take k) = true then some (s.take k) else none
  | [], _ => by simp [pick, hasT]
  | t :: ts, h => by
    have ht := h t (by simp)
    have ih := pick_len k s ts (fun u hu => h u (by simp [hu]))
    rw [pick]
    by_cases hp : s.take k = t
    · rw [if_pos ((pre_take ht).2 hp), if_pos (by simp [hasT, hp]), hp]
    · rw [if_neg (fun hx => hp ((pre_take ht).1 hx)), ih]
      have e : hasT (t :: ts) (s.take k) = hasT ts (s.take k) := by
        unfold hasT
        rw [List.contains_cons, show (s.take k == t) = false by simpa using hp, Bool.false_or]
      rw [e]
theorem pick_app (s : List UInt8) (b : List (List UInt8)) : ∀ a : List (List UInt8), pick (a ++ b) s = match pick a s with | some t => some t | none => pick b s
  | [] => rfl
  | t :: a => by
    rw [List.cons_append, pick, pick]
    split
    · rfl
    · exact pick_app s b a
def sg2 : List (List UInt8) := signs.take 4
def sg1 : List (List UInt8) := signs.drop 4
theorem sg_all : signs = sg2 ++ sg1 := by decide
theorem sg2_len : ∀ t ∈ sg2, t.length = 2 := by decide
theorem sg1_len : ∀ t ∈ sg1, t.length = 1 := by decide
theorem has_len {ts : List (List UInt8)} {k : Nat} (h : ∀ t ∈ ts, t.length = k) {x : List UInt8} (hx : x.length ≠ k) : hasT ts x = false := by
  cases hb : hasT ts x with
  | false => rfl
  | true => exact absurd (h x (has_mem hb)) hx
theorem has_app (a b : List (List UInt8)) (x : List UInt8) : hasT (a ++ b) x = (hasT a x || hasT b x) := by
  unfold hasT
  rw [Bool.eq_iff_iff]
  simp
theorem sign_two {x : List UInt8} (h : x.length = 2) : signB x = hasT sg2 x := by rw [signB, sg_all, has_app, has_len sg1_len (x := x) (by omega), Bool.or_false]
theorem sign_one {x : List UInt8} (h : x.length = 1) : signB x = hasT sg1 x := by rw [signB, sg_all, has_app, has_len sg2_len (x := x) (by omega), Bool.false_or]
/- What the row of signs picks is what stands there as a sign. -/
theorem pick_sign {c : UInt8} {r : List UInt8} : pick signs (c :: r) = if 1 ≤ r.length ∧ signB ((c :: r).take 2) = true then some ((c :: r).take 2) else if signB [c] = true then some [c] else none := by
  rw [sg_all, pick_app, pick_len 2 _ sg2 sg2_len, pick_len 1 _ sg1 sg1_len]
  have h1 : (c :: r).take 1 = [c] := rfl
  rw [h1, ← sign_one (x := [c]) rfl]
  cases r with
  | nil =>
    have z : hasT sg2 ([c].take 2) = false := has_len sg2_len (by simp)
    rw [z]
    cases signB [c] <;> simp
  | cons d r =>
    have h2 : (c :: d :: r).take 2 = [c, d] := rfl
    rw [h2, ← sign_two (x := [c, d]) rfl]
    cases signB [c, d] <;> simp
theorem pick_pre {ts : List (List UInt8)} {s t : List UInt8} (h : pick ts s = some t) : t.isPrefixOf s = true := by
  induction ts with
  | nil => cases h
  | cons u ts ih =>
    rw [pick] at h
    split at h
    · rename_i hp
      cases h
      exact hp
    · exact ih h
end Go.Proofs.YthnkkcamfcmhmaaDoor.Lx
