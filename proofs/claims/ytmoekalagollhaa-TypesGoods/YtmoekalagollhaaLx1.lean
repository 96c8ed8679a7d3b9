/-
  Tokens of a text, purely: letters, comments, numbers, names, texts, signs; a text's tokens or its first error.
-/
import Derived.Test.YtmoekalagollhaaTx1
namespace Go.Proofs.Ytmoekalagollhaa.Lx
open Go.Proofs.Ytmoekalagollhaa.Tx
set_option linter.unusedVariables false
set_option linter.unusedSimpArgs false
set_option maxRecDepth 100000

def ltI (c : Int) : Bool := (decide (97 ≤ c) && decide (c ≤ 122)) || (decide (65 ≤ c) && decide (c ≤ 90))
def digI (c : Int) : Bool := decide (48 ≤ c) && decide (c ≤ 57)
def hexI (c : Int) : Bool := digI c || (decide (65 ≤ c) && decide (c ≤ 70))
def letN (c : UInt8) : Bool := ltI c.toNat
def digN (c : UInt8) : Bool := digI c.toNat
def hexN (c : UInt8) : Bool := hexI c.toNat
def ldN (c : UInt8) : Bool := letN c || digN c
def blkN (c : UInt8) : Bool := c == 9 || c == 10 || c == 13 || c == 32
/- Keywords and signs, in the chapter's order. -/
def keys : List (List UInt8) := [[65, 82, 82, 65, 89], [66, 69, 71, 73, 78], [66, 89], [67, 65, 83, 69], [67, 79, 78, 83, 84], [68, 73, 86], [68, 79], [69, 76, 83, 69], [69, 76, 83, 73, 70], [69, 78, 68], [70, 65, 76, 83, 69], [70, 79, 82], [73, 70], [73, 77, 80, 79, 82, 84], [73, 78], [73, 83], [77, 79, 68], [77, 79, 68, 85, 76, 69], [78, 73, 76], [79, 70], [79, 82], [80, 79, 73, 78, 84, 69, 82], [80, 82, 79, 67, 69, 68, 85, 82, 69], [82, 69, 67, 79, 82, 68], [82, 69, 80, 69, 65, 84], [82, 69, 84, 85, 82, 78], [84, 72, 69, 78], [84, 79], [84, 82, 85, 69], [84, 89, 80, 69], [85, 78, 84, 73, 76], [86, 65, 82], [87, 72, 73, 76, 69]]
def signs : List (List UInt8) := [[58, 61], [46, 46], [60, 61], [62, 61], [43], [45], [42], [47], [38], [126], [46], [44], [59], [124], [40], [91], [123], [94], [61], [35], [60], [62], [58], [41], [93], [125]]
def hasT (l : List (List UInt8)) (t : List UInt8) : Bool := l.contains t
def keyB (t : List UInt8) : Bool := hasT keys t
def signB (t : List UInt8) : Bool := hasT signs t
/- Within a comment, so deep: how many bytes up to its end. -/
def cmt : Nat → List UInt8 → Option Nat
  | _, [] => none
  | _, [_] => none
  | d, a :: b :: r =>
    if a = 40 ∧ b = 42 then (cmt (d + 1) r).map (· + 2)
    else if a = 42 ∧ b = 41 then (if d = 1 then some 2 else (cmt (d - 1) r).map (· + 2))
    else (cmt d (b :: r)).map (· + 1)
/- Does a comment begin here? -/
def cmB : List UInt8 → Bool
  | a :: b :: _ => a == 40 && b == 42
  | _ => false
/- Blanks and comments: how many bytes; false: a comment that begins there has no end. -/
def skF : Nat → List UInt8 → Nat × Bool
  | 0, _ => (0, true)
  | _ + 1, [] => (0, true)
  | n + 1, c :: r =>
    if blkN c = true then ((skF n r).1 + 1, (skF n r).2)
    else if cmB (c :: r) = true then
      match cmt 0 (c :: r) with
      | none => (0, false)
      | some k => ((skF n ((c :: r).drop k)).1 + k, (skF n ((c :: r).drop k)).2)
    else (0, true)
def skP (t : List UInt8) : Nat × Bool := skF t.length t
theorem cmt_le : ∀ (t : List UInt8) (d k : Nat), cmt d t = some k → 2 ≤ k ∧ k ≤ t.length
  | [], _, _, h => by cases h
  | [_], _, _, h => by cases h
  | a :: b :: r, d, k, h => by
    rw [cmt] at h
    split at h
    · obtain ⟨j, hj, rfl⟩ := Option.map_eq_some_iff.1 h
      have := cmt_le r _ _ hj
      simp only [List.length_cons] at this ⊢
      omega
    · split at h
      · split at h
        · have := Option.some.inj h; simp; omega
        · obtain ⟨j, hj, rfl⟩ := Option.map_eq_some_iff.1 h
          have := cmt_le r _ _ hj
          simp only [List.length_cons] at this ⊢
          omega
      · obtain ⟨j, hj, rfl⟩ := Option.map_eq_some_iff.1 h
        have := cmt_le (b :: r) _ _ hj
        simp only [List.length_cons] at this ⊢
        omega
/- The steps of cmt. -/
theorem cmt_short {d : Nat} {t : List UInt8} (h : t.length < 2) : cmt d t = none := by
  match t, h with
  | [], _ => rfl
  | [_], _ => rfl
theorem cmt_in {d : Nat} {t : List UInt8} {r : List UInt8} (h : t = 40 :: 42 :: r) : cmt d t = (cmt (d + 1) r).map (· + 2) := by
  subst h
  rw [cmt, if_pos ⟨rfl, rfl⟩]
theorem cmt_end {t : List UInt8} {r : List UInt8} (h : t = 42 :: 41 :: r) : cmt 1 t = some 2 := by
  subst h
  rw [cmt, if_neg (by decide), if_pos ⟨rfl, rfl⟩, if_pos rfl]
theorem cmt_out {d : Nat} {t : List UInt8} {r : List UInt8} (hd : d ≠ 1) (h : t = 42 :: 41 :: r) : cmt d t = (cmt (d - 1) r).map (· + 2) := by
  subst h
  rw [cmt, if_neg (by decide), if_pos ⟨rfl, rfl⟩, if_neg hd]
theorem cmt_on {d : Nat} {a b : UInt8} {r : List UInt8} (h1 : ¬ (a = 40 ∧ b = 42)) (h2 : ¬ (a = 42 ∧ b = 41)) : cmt d (a :: b :: r) = (cmt d (b :: r)).map (· + 1) := by
  rw [cmt, if_neg h1, if_neg h2]
/- More fuel changes nothing. -/
theorem skF_more : ∀ (n : Nat) (t : List UInt8) (m : Nat), t.length ≤ n → skF (n + m) t = skF n t
  | 0, t, m, h => by
    have : t = [] := List.length_eq_zero_iff.1 (by omega)
    subst this
    cases m <;> rfl
  | n + 1, [], m, h => by rw [show n + 1 + m = (n + m) + 1 by omega]; rfl
  | n + 1, c :: r, m, h => by
    rw [show n + 1 + m = (n + m) + 1 by omega, skF, skF]
    have ih := fun t ht => skF_more n t m ht
    rw [ih r (by simpa using h)]
    split
    · rfl
    · split
      · cases hc : cmt 0 (c :: r) with
        | none => rfl
        | some k =>
          have := cmt_le _ _ _ hc
          simp only []
          rw [ih ((c :: r).drop k) (by rw [List.length_drop]; omega)]
      · rfl
theorem skF_any {n : Nat} {t : List UInt8} (h : t.length ≤ n) : skF n t = skP t := by
  have := skF_more t.length t (n - t.length) (Nat.le_refl _)
  rw [show t.length + (n - t.length) = n by omega] at this
  exact this
theorem skP_nil : skP [] = (0, true) := rfl
theorem skP_blank {c : UInt8} {r : List UInt8} (h : blkN c = true) : skP (c :: r) = ((skP r).1 + 1, (skP r).2) := by
  show skF (r.length + 1) (c :: r) = _
  rw [skF, if_pos h]
  rfl
theorem skP_none {c : UInt8} {r : List UInt8} (h : blkN c = false) (hc : cmB (c :: r) = true) (hn : cmt 0 (c :: r) = none) : skP (c :: r) = (0, false) := by
  show skF (r.length + 1) (c :: r) = _
  rw [skF, if_neg (by simp [h]), if_pos hc, hn]
theorem skP_cmt {c : UInt8} {r : List UInt8} {k : Nat} (h : blkN c = false) (hc : cmB (c :: r) = true) (hn : cmt 0 (c :: r) = some k) : skP (c :: r) = ((skP ((c :: r).drop k)).1 + k, (skP ((c :: r).drop k)).2) := by
  show skF (r.length + 1) (c :: r) = _
  have hk := cmt_le _ _ _ hn
  rw [skF, if_neg (by simp [h]), if_pos hc, hn]
  simp only []
  rw [skF_any (by rw [List.length_drop]; simp only [List.length_cons] at hk ⊢; omega)]
theorem skP_stop {c : UInt8} {r : List UInt8} (h : blkN c = false) (hc : cmB (c :: r) = false) : skP (c :: r) = (0, true) := by
  show skF (r.length + 1) (c :: r) = _
  rw [skF, if_neg (by simp [h]), if_neg (by simp [hc])]
theorem skF_le : ∀ (n : Nat) (t : List UInt8), (skF n t).1 ≤ t.length
  | 0, t => Nat.zero_le _
  | n + 1, [] => Nat.le_refl _
  | n + 1, c :: r => by
    rw [skF]
    split
    · have := skF_le n r
      simp only [List.length_cons]
      omega
    · split
      · cases hc : cmt 0 (c :: r) with
        | none => exact Nat.zero_le _
        | some k =>
          have hk := cmt_le _ _ _ hc
          have := skF_le n ((c :: r).drop k)
          rw [List.length_drop] at this
          simp only [] at this ⊢
          omega
      · exact Nat.zero_le _
theorem skP_le (t : List UInt8) : (skP t).1 ≤ t.length := skF_le _ _
/- Numbers. -/
def dvN (c : UInt8) : Nat := if letN c = true then c.toNat - 65 + 10 else c.toNat - 48
def valB (b : Nat) (l : List UInt8) : Nat := l.foldl (fun n c => n * b + dvN c) 0
theorem valB_snoc (b : Nat) (l : List UInt8) (c : UInt8) : valB b (l ++ [c]) = valB b l * b + dvN c := by simp [valB, List.foldl_append]
theorem valB_mono (b : Nat) (hb : 1 ≤ b) (l r : List UInt8) : valB b l ≤ valB b (l ++ r) := by
  have key : ∀ (r : List UInt8) (n : Nat), n ≤ r.foldl (fun n c => n * b + dvN c) n := by
    intro r
    induction r with
    | nil => intro n; exact Nat.le_refl _
    | cons c r ih =>
      intro n
      have h1 : n ≤ n * b + dvN c := Nat.le_trans (Nat.le_mul_of_pos_right n hb) (Nat.le_add_right _ _)
      exact Nat.le_trans h1 (ih _)
  unfold valB
  rw [List.foldl_append]
  exact key r _
/- One token: its kind, text, number; its place. -/
structure Tk where
  k : Int
  t : List UInt8
  n : Int
  a : Int
/- What stands at the beginning of t: a token and how many bytes it has, or an error. -/
def Res := Except Int (Tk × Nat)
def numV (lim v len : Nat) (kind : Int) (a : Int) : Except Int (Tk × Nat) :=
  if lim ≤ v then .error 91 else .ok (⟨kind, [], if 2147483648 ≤ v then (v : Int) - 4294967296 else v, a⟩, len)
def numT (t : List UInt8) (a : Int) : Except Int (Tk × Nat) :=
  let h := t.takeWhile hexN
  let r := t.drop h.length
  if r.head? = some 72 then numV 4294967296 (valB 16 h) (h.length + 1) 3 a
  else if r.head? = some 88 then numV 256 (valB 16 h) (h.length + 1) 4 a
  else if h.all digN = false then .error 90
  else if r.head? = some 46 ∧ r.tail.head? ≠ some 46 then .error 90
  else numV 2147483648 (valB 10 h) h.length 3 a
def strN (c : UInt8) : Bool := decide (32 ≤ c.toNat) && c != 34
def oneT (t : List UInt8) (a : Int) : Except Int (Tk × Nat) := match t with
  | [] => .error 90
  | c :: r =>
    if letN c = true then
      let w := (c :: r).takeWhile ldN
      if keyB w = true then .ok (⟨2, w, 0, a⟩, w.length) else if 24 < w.length then .error 2 else .ok (⟨1, w, 0, a⟩, w.length)
    else if digN c = true then numT (c :: r) a
    else if c = 34 then
      let b := r.takeWhile strN
      if (r.drop b.length).head? ≠ some 34 then .error 90 else if 64 < b.length then .error 2 else .ok (⟨5, b, 0, a⟩, b.length + 2)
    else if 1 ≤ r.length ∧ signB ((c :: r).take 2) = true then .ok (⟨6, (c :: r).take 2, 0, a⟩, 2)
    else if signB [c] = true then .ok (⟨6, [c], 0, a⟩, 1)
    else .error 90
theorem tw_le (p : UInt8 → Bool) : ∀ t : List UInt8, (t.takeWhile p).length ≤ t.length
  | [] => Nat.le_refl _
  | c :: r => by
    rw [List.takeWhile_cons]
    split
    · have := tw_le p r
      simp only [List.length_cons]
      omega
    · exact Nat.zero_le _
/- What takeWhile takes: a prefix of which all hold, and then one that does not, or the end. -/
theorem tw_is (p : UInt8 → Bool) : ∀ (t : List UInt8) (n : Nat), n ≤ t.length → (∀ i (h : i < n), ∀ c, t[i]? = some c → p c = true) → (∀ c, t[n]? = some c → p c = false) → t.takeWhile p = t.take n
  | [], n, hn, _, _ => by simp
  | c :: r, 0, hn, h1, h2 => by
    rw [List.takeWhile_cons, if_neg (by rw [h2 c rfl]; simp)]
    rfl
  | c :: r, n + 1, hn, h1, h2 => by
    rw [List.takeWhile_cons, if_pos (h1 0 (by omega) c rfl), List.take_succ_cons]
    congr 1
    exact tw_is p r n (by simpa using hn) (fun i hi d hd => h1 (i + 1) (by omega) d (by simpa using hd)) (fun d hd => h2 d (by simpa using hd))
end Go.Proofs.Ytmoekalagollhaa.Lx
