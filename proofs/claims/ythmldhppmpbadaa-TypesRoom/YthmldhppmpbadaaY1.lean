/-
  Texts as lists of bytes: decimal numbers, registers, a text cut at another one; what is read back.
  Tokens of a text, purely: letters, comments, numbers, names, texts, signs; a text's tokens or its first error.
  Tokens that lie in memory.
  The document's own tokens (package spinetref09): String.
  Trees in memory: cells and slices of cells, read wherever they lie.
  Expressions, types, statements, declarations, modules as trees of their own, and as cells.
  A call's own memory: its variables' blocks, rows that it builds, trees that it has; what each operation makes of them.
  Operations on a call's own memory: variables made, boxed, read, written; slices made; rows that grow; calls.
  A region that draws its order, step by step in the text's order.
  A region that draws its order where two operations may come up at a time: a tree of orders.
  A call's own memory: rows within a region that draws; a row that grows by a slice of things; one thing of a slice.
  A call's own memory: a row that a callee handed on; a row that is written in place.
  A call's own memory: a row that a callee made, nothing else turned; one cell of a slice; a row that grows by a slice.
  A call's own memory: two rows; a row and a tree that a callee handed on; an append within a region that draws.
  A region that draws its order and ends by a store into the call's own result: the world grows but for that block.
  A region that draws its order and ends by several stores: what only reads is taken ahead of all of them.
  A map that was made and written: the list of what was put into it, in its order; what is found at a key.
  A call's own memory with blocks beside it of which a fact is known (maps): each fact speaks of its block alone.
  Steps of a walk: an operation whose guard says yes; a test whose answer is known.
-/
import Derived.Laws.Concat
import Derived.Laws.AppendOwnNone
import Derived.OwnWalk
import Derived.WalkKit
import Derived.Test.YthmldhppmpbadaaProg
import Derived.ProofKit
import Derived.Deep.QuietTactic
import Derived.BigQuiet
import Derived.Deep.Cut
import Derived.RegionTactic
import Derived.Laws.Cover1
import Derived.Lib.SmallJoins
import Derived.Maps.AppendAt
import Derived.Great.BuildSlice
import Derived.OrdersHeld
import Derived.Laws.OwnMore
import Derived.Maps.OwnSet
import Derived.DeepKeys4
namespace Go.Proofs.Ythmldhppmpbadaa.Tx
set_option linter.unusedVariables false

def bs (l : List UInt8) : ByteArray := ⟨l.toArray⟩
theorem bs_size (l : List UInt8) : (bs l).size = l.length := rfl
theorem bs_append (a b : List UInt8) : bs a ++ bs b = bs (a ++ b) := ByteArray.mk_append_mk a b
theorem bs_inj {a b : List UInt8} (h : bs a = bs b) : a = b := by
  have := congrArg (fun z : ByteArray => z.data.toList) h
  simpa [bs] using this
theorem bs_of (s : ByteArray) : bs s.data.toList = s := by simp [bs]
theorem bs_eq (a b : List UInt8) : (bs a = bs b) ↔ a = b := ⟨bs_inj, fun h => by rw [h]⟩

/- Decimal digits. -/
def dg (n : Nat) : UInt8 := UInt8.ofNat (48 + n)
theorem dg_val {n : Nat} (h : n < 10) : (dg n).toNat = 48 + n := by simp [dg]; omega
def decF : Nat → Nat → List UInt8
  | 0, _ => []
  | k + 1, n => if n < 10 then [dg n] else decF k (n / 10) ++ [dg (n % 10)]
theorem decF_more (k : Nat) : ∀ n, n < 10 ^ (k + 1) → decF (k + 2) n = decF (k + 1) n := by
  induction k with
  | zero => intro n h; simp at h; simp [decF, h]
  | succ k ih =>
    intro n h
    by_cases h1 : n < 10
    · rw [decF, if_pos h1, decF, if_pos h1]
    · rw [decF, if_neg h1, ih (n / 10) (by rw [Nat.pow_succ] at h; omega)]
      rw [show decF (k + 1 + 1) n = if n < 10 then [dg n] else decF (k + 1) (n / 10) ++ [dg (n % 10)] from rfl, if_neg h1]
theorem decF_le (k j n : Nat) (h : n < 10 ^ (k + 1)) : decF (k + 1 + j) n = decF (k + 1) n := by
  induction j with
  | zero => rfl
  | succ j ih =>
    rw [← ih]
    have : n < 10 ^ (k + j + 1) := Nat.lt_of_lt_of_le h (Nat.pow_le_pow_right (by decide) (by omega))
    have := decF_more (k + j) n this
    rw [show k + 1 + (j + 1) = k + j + 2 by omega, show k + 1 + j = k + j + 1 by omega]
    exact this
def decN (n : Nat) : List UInt8 := decF 12 n
theorem decN_lo {n : Nat} (h : n < 10) : decN n = [dg n] := by rw [decN, decF, if_pos h]
theorem decN_hi {n : Nat} (h : ¬ n < 10) (h1 : n < 1000000000000) : decN n = decN (n / 10) ++ [dg (n % 10)] := by
  rw [decN, decF, if_neg h, decN, show (12 : Nat) = 10 + 1 + 1 from rfl, decF_le 10 1 (n / 10) (by show n / 10 < 100000000000; omega)]
theorem decF_len (k : Nat) : ∀ n, (decF k n).length ≤ k := by
  induction k with
  | zero => intro n; simp [decF]
  | succ k ih =>
    intro n
    rw [decF]
    split
    · simp
    · have := ih (n / 10)
      simp; omega
theorem decN_len (n : Nat) : (decN n).length ≤ 12 := decF_len 12 n
def decI (n : Int) : List UInt8 := if n < 0 then 45 :: decN (-n).toNat else decN n.toNat
theorem decI_le (n : Int) : (decI n).length ≤ 13 := by
  have h1 := decN_len (-n).toNat
  have h2 := decN_len n.toNat
  unfold decI
  split
  · simp; omega
  · omega
def isD (c : UInt8) : Bool := decide (48 ≤ c.toNat) && decide (c.toNat ≤ 57)
def valL (l : List UInt8) : Nat := l.foldl (fun n c => 10 * n + (c.toNat - 48)) 0
theorem valL_snoc (l : List UInt8) (c : UInt8) : valL (l ++ [c]) = 10 * valL l + (c.toNat - 48) := by simp [valL, List.foldl_append]
theorem dec_facts (k : Nat) : ∀ n, n < 10 ^ (k + 1) → valL (decF (k + 1) n) = n ∧ (decF (k + 1) n).all isD = true ∧ 1 ≤ (decF (k + 1) n).length ∧ (decF (k + 1) n).length ≤ k + 1 := by
  have one : ∀ n, n < 10 → valL [dg n] = n ∧ isD (dg n) = true := fun n h => by
    have := dg_val h
    constructor
    · simp [valL, this]
    · simp [isD, this]; omega
  induction k with
  | zero =>
    intro n h
    have h1 : n < 10 := by simpa using h
    rw [decF, if_pos h1]
    exact ⟨(one n h1).1, by simp [(one n h1).2], by simp, by simp⟩
  | succ k ih =>
    intro n h
    by_cases h1 : n < 10
    · rw [decF, if_pos h1]
      exact ⟨(one n h1).1, by simp [(one n h1).2], by simp, by simp⟩
    · obtain ⟨a, b, c, d⟩ := ih (n / 10) (by rw [Nat.pow_succ] at h; omega)
      have hm : n % 10 < 10 := Nat.mod_lt _ (by decide)
      rw [decF, if_neg h1]
      refine ⟨?_, ?_, ?_, ?_⟩
      · rw [valL_snoc, a, dg_val hm]; omega
      · simp only [List.all_append, b, List.all_cons, (one _ hm).2, List.all_nil, Bool.and_true]
      · simp
      · simp; omega
theorem decN_at {n k : Nat} (hk : k < 12) (h : n < 10 ^ (k + 1)) : decN n = decF (k + 1) n := by
  have := decF_le k (11 - k) n h
  rw [decN, ← this]
  congr 1
  omega
theorem decN_facts {n : Nat} (h : n < 1000000000) : valL (decN n) = n ∧ (decN n).all isD = true ∧ 1 ≤ (decN n).length ∧ (decN n).length ≤ 9 := by
  rw [decN_at (k := 8) (by decide) h]
  exact dec_facts 8 n h

/- A text cut at the first place of another one. -/
def cutF (d : List UInt8) : List UInt8 → Option (List UInt8 × List UInt8)
  | [] => if d = [] then some ([], []) else none
  | c :: s => if d.isPrefixOf (c :: s) = true then some ([], (c :: s).drop d.length) else (cutF d s).map fun p => (c :: p.1, p.2)
def cut1 (s d : List UInt8) : List UInt8 := match cutF d s with | some p => p.1 | none => s
def cut2 (s d : List UInt8) : List UInt8 := match cutF d s with | some p => p.2 | none => []
def cutB (s d : List UInt8) : Bool := (cutF d s).isSome
theorem cutF_at (x : UInt8) (d' : List UInt8) : ∀ (p t : List UInt8), x ∉ p → cutF (x :: d') (p ++ (x :: d') ++ t) = some (p, t)
  | [], t, _ => by
    show cutF (x :: d') (x :: (d' ++ t)) = _
    rw [cutF, if_pos (by simp)]
    simp
  | c :: p, t, h => by
    simp only [List.mem_cons, not_or] at h
    show cutF (x :: d') (c :: (p ++ (x :: d') ++ t)) = _
    rw [cutF, if_neg (by simp [h.1]), cutF_at x d' p t h.2]
    rfl
theorem cutF_no (x : UInt8) (d' : List UInt8) : ∀ (p : List UInt8), x ∉ p → cutF (x :: d') p = none
  | [], _ => by simp [cutF]
  | c :: p, h => by
    simp only [List.mem_cons, not_or] at h
    rw [cutF, if_neg (by simp [h.1]), cutF_no x d' p h.2]
    rfl

/- A number, a register. -/
def negB (s : List UInt8) : Bool := s.head? == some 45
def digs (s : List UInt8) : List UInt8 := if negB s = true then s.tail else s
def numI (s : List UInt8) : Int := if negB s = true then -(valL (digs s) : Int) else (valL (digs s) : Int)
def numA (s : List UInt8) : Bool := decide (1 ≤ (digs s).length) && decide ((digs s).length ≤ 9) && (digs s).all isD
def numB (s : List UInt8) : Bool := numA s && (decI (numI s) == s)
def numV (s : List UInt8) : Int := if numA s = true then numI s else 0
theorem dig_ne {l : List UInt8} (h : l.all isD = true) (x : UInt8) (hx : isD x = false) : x ∉ l := fun m => by
  have := List.all_eq_true.1 h x m
  rw [hx] at this
  cases this
theorem neg_dig {l : List UInt8} (h : l.all isD = true) : negB l = false := by
  cases l with
  | nil => rfl
  | cons c l =>
    have : isD c = true := by simp at h; exact h.1
    have n : c ≠ 45 := by rintro rfl; simp [isD] at this
    simp [negB, n]
theorem num_dec {n : Int} (h0 : -1000000000 < n) (h1 : n < 1000000000) : numA (decI n) = true ∧ numI (decI n) = n ∧ numB (decI n) = true ∧ numV (decI n) = n := by
  have key : numA (decI n) = true ∧ numI (decI n) = n := by
    by_cases h : n < 0
    · obtain ⟨a, b, c, d⟩ := decN_facts (n := (-n).toNat) (by omega)
      have e : decI n = 45 :: decN (-n).toNat := by rw [decI, if_pos h]
      have g : negB (decI n) = true := by rw [e]; rfl
      have t : digs (decI n) = decN (-n).toNat := by rw [digs, if_pos g, e]; rfl
      refine ⟨by simp only [numA, t, b, Bool.and_true, Bool.and_eq_true, decide_eq_true_eq]; exact ⟨c, d⟩, ?_⟩
      rw [numI, if_pos g, t, a]; omega
    · obtain ⟨a, b, c, d⟩ := decN_facts (n := n.toNat) (by omega)
      have e : decI n = decN n.toNat := by rw [decI, if_neg h]
      have g : negB (decI n) = false := by rw [e]; exact neg_dig b
      have t : digs (decI n) = decN n.toNat := by rw [digs, if_neg (by simp [g]), e]
      refine ⟨by simp only [numA, t, b, Bool.and_true, Bool.and_eq_true, decide_eq_true_eq]; exact ⟨c, d⟩, ?_⟩
      rw [numI, if_neg (by simp [g]), t, a]; omega
  exact ⟨key.1, key.2, by simp [numB, key.1, key.2], by rw [numV, if_pos key.1, key.2]⟩
def regI (n : Int) : List UInt8 := 82 :: decI n
def rgB (s : List UInt8) : Bool := decide (2 ≤ s.length) && (s.head? == some 82)
def rgV (s : List UInt8) : Int := if rgB s = true then numV s.tail else 0
def rgK (s : List UInt8) : Bool := rgB s && (numB s.tail && (decide (0 ≤ numV s.tail) && decide (numV s.tail ≤ 15)))
theorem decI_len {n : Int} (h0 : -1000000000 < n) (h1 : n < 1000000000) : 1 ≤ (decI n).length := by
  by_cases h : n < 0
  · rw [decI, if_pos h]; simp
  · rw [decI, if_neg h]; exact (decN_facts (n := n.toNat) (by omega)).2.2.1
theorem reg_reg {n : Int} (h0 : 0 ≤ n) (h1 : n ≤ 15) : rgK (regI n) = true ∧ rgV (regI n) = n := by
  obtain ⟨_, _, c, d⟩ := num_dec (n := n) (by omega) (by omega)
  have l := decI_len (n := n) (by omega) (by omega)
  have g : rgB (regI n) = true := by
    have : 2 ≤ (regI n).length := by simp [regI]; omega
    simp only [rgB, this, decide_true, Bool.true_and]
    rfl
  have t : (regI n).tail = decI n := rfl
  refine ⟨?_, by rw [rgV, if_pos g, t, d]⟩
  simp only [rgK, g, t, c, d, Bool.true_and, Bool.and_eq_true, decide_eq_true_eq]
  exact ⟨h0, h1⟩
/- A decimal number is no register. -/
theorem reg_dec (n : Int) (h0 : -1000000000 < n) (h1 : n < 1000000000) : rgB (decI n) = false := by
  have : (decI n).head? ≠ some 82 := by
    by_cases h : n < 0
    · rw [decI, if_pos h]; simp
    · rw [decI, if_neg h]
      obtain ⟨_, b, _, _⟩ := decN_facts (n := n.toNat) (by omega)
      intro e
      cases hl : decN n.toNat with
      | nil => rw [hl] at e; cases e
      | cons c l =>
        rw [hl] at e b
        simp at e
        subst e
        simp [isD] at b
  simp only [rgB, Bool.and_eq_false_iff]
  right
  simpa using this
/- No sign but digits, '-' and R stands in a register or a number. -/
theorem mem_dec {n : Int} (h0 : -1000000000 < n) (h1 : n < 1000000000) {x : UInt8} (hx : isD x = false) (h45 : x ≠ 45) : x ∉ decI n := by
  by_cases h : n < 0
  · rw [decI, if_pos h]
    obtain ⟨_, b, _, _⟩ := decN_facts (n := (-n).toNat) (by omega)
    simp only [List.mem_cons, not_or]
    exact ⟨h45, dig_ne b x hx⟩
  · rw [decI, if_neg h]
    exact dig_ne (decN_facts (n := n.toNat) (by omega)).2.1 x hx
theorem mem_reg {n : Int} (h0 : -1000000000 < n) (h1 : n < 1000000000) {x : UInt8} (hx : isD x = false) (h45 : x ≠ 45) (h82 : x ≠ 82) : x ∉ regI n := by
  simp only [regI, List.mem_cons, not_or]
  exact ⟨h82, mem_dec h0 h1 hx h45⟩
end Go.Proofs.Ythmldhppmpbadaa.Tx
namespace Go.Proofs.Ythmldhppmpbadaa.Lx
open Go.Proofs.Ythmldhppmpbadaa.Tx
set_option linter.unusedVariables false
set_option linter.unusedSimpArgs false
set_option maxRecDepth 100000

def ltI (c : Int) : Bool := (decide (97 ≤ c) && decide (c ≤ 122)) || (decide (65 ≤ c) && decide (c ≤ 90))
def digI (c : Int) : Bool := decide (48 ≤ c) && decide (c ≤ 57)
def hexI (c : Int) : Bool := digI c || (decide (65 ≤ c) && decide (c ≤ 70))
def letN (c : UInt8) : Bool := ltI c.toNat
def digN (c : UInt8) : Bool := digI c.toNat
def hexN (c : UInt8) : Bool := hexI c.toNat
def ldN (c : UInt8) : Bool := letN c || digN c
def blkN (c : UInt8) : Bool := c == 9 || c == 10 || c == 13 || c == 32
/- Keywords and signs, in the chapter's order. -/
def keys : List (List UInt8) := [[65, 82, 82, 65, 89], [66, 69, 71, 73, 78], [66, 89], [67, 65, 83, 69], [67, 79, 78, 83, 84], [68, 73, 86], [68, 79], [69, 76, 83, 69], [69, 76, 83, 73, 70], [69, 78, 68], [70, 65, 76, 83, 69], [70, 79, 82], [73, 70], [73, 77, 80, 79, 82, 84], [73, 78], [73, 83], [77, 79, 68], [77, 79, 68, 85, 76, 69], [78, 73, 76], [79, 70], [79, 82], [80, 79, 73, 78, 84, 69, 82], [80, 82, 79, 67, 69, 68, 85, 82, 69], [82, 69, 67, 79, 82, 68], [82, 69, 80, 69, 65, 84], [82, 69, 84, 85, 82, 78], [84, 72, 69, 78], [84, 79], [84, 82, 85, 69], [84, 89, 80, 69], [85, 78, 84, 73, 76], [86, 65, 82], [87, 72, 73, 76, 69]]
def signs : List (List UInt8) := [[58, 61], [46, 46], [60, 61], [62, 61], [43], [45], [42], [47], [38], [126], [46], [44], [59], [124], [40], [91], [123], [94], [61], [35], [60], [62], [58], [41], [93], [125]]
def hasT (l : List (List UInt8)) (t : List UInt8) : Bool := l.contains t
def keyB (t : List UInt8) : Bool := hasT keys t
def signB (t : List UInt8) : Bool := hasT signs t
/- Within a comment, so deep: how many bytes up to its end. -/
def cmt : Nat → List UInt8 → Option Nat
  | _, [] => none
  | _, [_] => none
  | d, a :: b :: r =>
    if a = 40 ∧ b = 42 then (cmt (d + 1) r).map (· + 2)
    else if a = 42 ∧ b = 41 then (if d = 1 then some 2 else (cmt (d - 1) r).map (· + 2))
    else (cmt d (b :: r)).map (· + 1)
/- Does a comment begin here? -/
def cmB : List UInt8 → Bool
  | a :: b :: _ => a == 40 && b == 42
  | _ => false
/- Blanks and comments: how many bytes; false: a comment that begins there has no end. -/
def skF : Nat → List UInt8 → Nat × Bool
  | 0, _ => (0, true)
  | _ + 1, [] => (0, true)
  | n + 1, c :: r =>
    if blkN c = true then ((skF n r).1 + 1, (skF n r).2)
    else if cmB (c :: r) = true then
      match cmt 0 (c :: r) with
      | none => (0, false)
      | some k => ((skF n ((c :: r).drop k)).1 + k, (skF n ((c :: r).drop k)).2)
    else (0, true)
def skP (t : List UInt8) : Nat × Bool := skF t.length t
theorem cmt_le : ∀ (t : List UInt8) (d k : Nat), cmt d t = some k → 2 ≤ k ∧ k ≤ t.length
  | [], _, _, h => by cases h
  | [_], _, _, h => by cases h
  | a :: b :: r, d, k, h => by
    rw [cmt] at h
    split at h
    · obtain ⟨j, hj, rfl⟩ := Option.map_eq_some_iff.1 h
      have := cmt_le r _ _ hj
      simp only [List.length_cons] at this ⊢
      omega
    · split at h
      · split at h
        · have := Option.some.inj h; simp; omega
        · obtain ⟨j, hj, rfl⟩ := Option.map_eq_some_iff.1 h
          have := cmt_le r _ _ hj
          simp only [List.length_cons] at this ⊢
          omega
      · obtain ⟨j, hj, rfl⟩ := Option.map_eq_some_iff.1 h
        have := cmt_le (b :: r) _ _ hj
        simp only [List.length_cons] at this ⊢
        omega
/- The steps of cmt. -/
theorem cmt_short {d : Nat} {t : List UInt8} (h : t.length < 2) : cmt d t = none := by
  match t, h with
  | [], _ => rfl
  | [_], _ => rfl
theorem cmt_in {d : Nat} {t : List UInt8} {r : List UInt8} (h : t = 40 :: 42 :: r) : cmt d t = (cmt (d + 1) r).map (· + 2) := by
  subst h
  rw [cmt, if_pos ⟨rfl, rfl⟩]
theorem cmt_end {t : List UInt8} {r : List UInt8} (h : t = 42 :: 41 :: r) : cmt 1 t = some 2 := by
  subst h
  rw [cmt, if_neg (by decide), if_pos ⟨rfl, rfl⟩, if_pos rfl]
theorem cmt_out {d : Nat} {t : List UInt8} {r : List UInt8} (hd : d ≠ 1) (h : t = 42 :: 41 :: r) : cmt d t = (cmt (d - 1) r).map (· + 2) := by
  subst h
  rw [cmt, if_neg (by decide), if_pos ⟨rfl, rfl⟩, if_neg hd]
theorem cmt_on {d : Nat} {a b : UInt8} {r : List UInt8} (h1 : ¬ (a = 40 ∧ b = 42)) (h2 : ¬ (a = 42 ∧ b = 41)) : cmt d (a :: b :: r) = (cmt d (b :: r)).map (· + 1) := by
  rw [cmt, if_neg h1, if_neg h2]
/- More fuel changes nothing. -/
theorem skF_more : ∀ (n : Nat) (t : List UInt8) (m : Nat), t.length ≤ n → skF (n + m) t = skF n t
  | 0, t, m, h => by
    have : t = [] := List.length_eq_zero_iff.1 (by omega)
    subst this
    cases m <;> rfl
  | n + 1, [], m, h => by rw [show n + 1 + m = (n + m) + 1 by omega]; rfl
  | n + 1, c :: r, m, h => by
    rw [show n + 1 + m = (n + m) + 1 by omega, skF, skF]
    have ih := fun t ht => skF_more n t m ht
    rw [ih r (by simpa using h)]
    split
    · rfl
    · split
      · cases hc : cmt 0 (c :: r) with
        | none => rfl
        | some k =>
          have := cmt_le _ _ _ hc
          simp only []
          rw [ih ((c :: r).drop k) (by rw [List.length_drop]; omega)]
      · rfl
theorem skF_any {n : Nat} {t : List UInt8} (h : t.length ≤ n) : skF n t = skP t := by
  have := skF_more t.length t (n - t.length) (Nat.le_refl _)
  rw [show t.length + (n - t.length) = n by omega] at this
  exact this
theorem skP_nil : skP [] = (0, true) := rfl
theorem skP_blank {c : UInt8} {r : List UInt8} (h : blkN c = true) : skP (c :: r) = ((skP r).1 + 1, (skP r).2) := by
  show skF (r.length + 1) (c :: r) = _
  rw [skF, if_pos h]
  rfl
theorem skP_none {c : UInt8} {r : List UInt8} (h : blkN c = false) (hc : cmB (c :: r) = true) (hn : cmt 0 (c :: r) = none) : skP (c :: r) = (0, false) := by
  show skF (r.length + 1) (c :: r) = _
  rw [skF, if_neg (by simp [h]), if_pos hc, hn]
theorem skP_cmt {c : UInt8} {r : List UInt8} {k : Nat} (h : blkN c = false) (hc : cmB (c :: r) = true) (hn : cmt 0 (c :: r) = some k) : skP (c :: r) = ((skP ((c :: r).drop k)).1 + k, (skP ((c :: r).drop k)).2) := by
  show skF (r.length + 1) (c :: r) = _
  have hk := cmt_le _ _ _ hn
  rw [skF, if_neg (by simp [h]), if_pos hc, hn]
  simp only []
  rw [skF_any (by rw [List.length_drop]; simp only [List.length_cons] at hk ⊢; omega)]
theorem skP_stop {c : UInt8} {r : List UInt8} (h : blkN c = false) (hc : cmB (c :: r) = false) : skP (c :: r) = (0, true) := by
  show skF (r.length + 1) (c :: r) = _
  rw [skF, if_neg (by simp [h]), if_neg (by simp [hc])]
theorem skF_le : ∀ (n : Nat) (t : List UInt8), (skF n t).1 ≤ t.length
  | 0, t => Nat.zero_le _
  | n + 1, [] => Nat.le_refl _
  | n + 1, c :: r => by
    rw [skF]
    split
    · have := skF_le n r
      simp only [List.length_cons]
      omega
    · split
      · cases hc : cmt 0 (c :: r) with
        | none => exact Nat.zero_le _
        | some k =>
          have hk := cmt_le _ _ _ hc
          have := skF_le n ((c :: r).drop k)
          rw [List.length_drop] at this
          simp only [] at this ⊢
          omega
      · exact Nat.zero_le _
theorem skP_le (t : List UInt8) : (skP t).1 ≤ t.length := skF_le _ _
/- Numbers. -/
def dvN (c : UInt8) : Nat := if letN c = true then c.toNat - 65 + 10 else c.toNat - 48
def valB (b : Nat) (l : List UInt8) : Nat := l.foldl (fun n c => n * b + dvN c) 0
theorem valB_snoc (b : Nat) (l : List UInt8) (c : UInt8) : valB b (l ++ [c]) = valB b l * b + dvN c := by simp [valB, List.foldl_append]
theorem valB_mono (b : Nat) (hb : 1 ≤ b) (l r : List UInt8) : valB b l ≤ valB b (l ++ r) := by
  have key : ∀ (r : List UInt8) (n : Nat), n ≤ r.foldl (fun n c => n * b + dvN c) n := by
    intro r
    induction r with
    | nil => intro n; exact Nat.le_refl _
    | cons c r ih =>
      intro n
      have h1 : n ≤ n * b + dvN c := Nat.le_trans (Nat.le_mul_of_pos_right n hb) (Nat.le_add_right _ _)
      exact Nat.le_trans h1 (ih _)
  unfold valB
  rw [List.foldl_append]
  exact key r _
/- One token: its kind, text, number; its place. -/
structure Tk where
  k : Int
  t : List UInt8
  n : Int
  a : Int
/- What stands at the beginning of t: a token and how many bytes it has, or an error. -/
def Res := Except Int (Tk × Nat)
def numV (lim v len : Nat) (kind : Int) (a : Int) : Except Int (Tk × Nat) :=
  if lim ≤ v then .error 91 else .ok (⟨kind, [], if 2147483648 ≤ v then (v : Int) - 4294967296 else v, a⟩, len)
def numT (t : List UInt8) (a : Int) : Except Int (Tk × Nat) :=
  let h := t.takeWhile hexN
  let r := t.drop h.length
  if r.head? = some 72 then numV 4294967296 (valB 16 h) (h.length + 1) 3 a
  else if r.head? = some 88 then numV 256 (valB 16 h) (h.length + 1) 4 a
  else if h.all digN = false then .error 90
  else if r.head? = some 46 ∧ r.tail.head? ≠ some 46 then .error 90
  else numV 2147483648 (valB 10 h) h.length 3 a
def strN (c : UInt8) : Bool := decide (32 ≤ c.toNat) && c != 34
def oneT (t : List UInt8) (a : Int) : Except Int (Tk × Nat) := match t with
  | [] => .error 90
  | c :: r =>
    if letN c = true then
      let w := (c :: r).takeWhile ldN
      if keyB w = true then .ok (⟨2, w, 0, a⟩, w.length) else if 24 < w.length then .error 2 else .ok (⟨1, w, 0, a⟩, w.length)
    else if digN c = true then numT (c :: r) a
    else if c = 34 then
      let b := r.takeWhile strN
      if (r.drop b.length).head? ≠ some 34 then .error 90 else if 64 < b.length then .error 2 else .ok (⟨5, b, 0, a⟩, b.length + 2)
    else if 1 ≤ r.length ∧ signB ((c :: r).take 2) = true then .ok (⟨6, (c :: r).take 2, 0, a⟩, 2)
    else if signB [c] = true then .ok (⟨6, [c], 0, a⟩, 1)
    else .error 90
theorem tw_le (p : UInt8 → Bool) : ∀ t : List UInt8, (t.takeWhile p).length ≤ t.length
  | [] => Nat.le_refl _
  | c :: r => by
    rw [List.takeWhile_cons]
    split
    · have := tw_le p r
      simp only [List.length_cons]
      omega
    · exact Nat.zero_le _
/- What takeWhile takes: a prefix of which all hold, and then one that does not, or the end. -/
theorem tw_is (p : UInt8 → Bool) : ∀ (t : List UInt8) (n : Nat), n ≤ t.length → (∀ i (h : i < n), ∀ c, t[i]? = some c → p c = true) → (∀ c, t[n]? = some c → p c = false) → t.takeWhile p = t.take n
  | [], n, hn, _, _ => by simp
  | c :: r, 0, hn, h1, h2 => by
    rw [List.takeWhile_cons, if_neg (by rw [h2 c rfl]; simp)]
    rfl
  | c :: r, n + 1, hn, h1, h2 => by
    rw [List.takeWhile_cons, if_pos (h1 0 (by omega) c rfl), List.take_succ_cons]
    congr 1
    exact tw_is p r n (by simpa using hn) (fun i hi d hd => h1 (i + 1) (by omega) d (by simpa using hd)) (fun d hd => h2 d (by simpa using hd))
end Go.Proofs.Ythmldhppmpbadaa.Lx
namespace Go.Proofs.Ythmldhppmpbadaa.Lx
open Go.RowKit Go.Proofs.Ythmldhppmpbadaa.Tx
set_option linter.unusedVariables false
set_option linter.unusedSimpArgs false

structure Hid (p : Prop) : Prop where
  out : p
theorem hide {p : Prop} (h : p) : Hid p := ⟨h⟩
/- Tokens that lie at an address (or there are none). -/
def TkAt (w : World) (a : Addr) (t : Tk) : Prop :=
  w.cell? (a.add 0) = some (.int .i64 t.k) ∧ w.cell? (a.add 1) = some (.string (bs t.t)) ∧ w.cell? (a.add 2) = some (.int .i64 t.n) ∧ w.cell? (a.add 3) = some (.int .i64 t.a)
structure TkS (w : World) (o : Option Addr) (ts : List Tk) : Prop where
  at' : ∀ a, o = some a → ∀ j (h : j < ts.length), TkAt w (a.add (j * 4)) ts[j]
  nil' : o = .none → ts.length = 0
theorem TkAt.kept {w w' : World} {a : Addr} {t : Tk} (h : TkAt w a t) (hg : w.grownBy w' none) : TkAt w' a t :=
  ⟨hg.cell h.1 (by simp), hg.cell h.2.1 (by simp), hg.cell h.2.2.1 (by simp), hg.cell h.2.2.2 (by simp)⟩
theorem TkS.kept {w w' : World} {o : Option Addr} {ts : List Tk} (h : TkS w o ts) (hg : w.grownBy w' none) : TkS w' o ts := ⟨fun a e j hj => (h.at' a e j hj).kept hg, h.nil'⟩
theorem four_of' {w : World} {A : Addr} {t : Tk} (h : TkAt w A t) : w.cell? A = some (.int .i64 t.k) ∧ w.cell? ⟨A.block, A.off + 1, none⟩ = some (.string (bs t.t)) ∧ w.cell? ⟨A.block, A.off + 2, none⟩ = some (.int .i64 t.n) ∧ w.cell? ⟨A.block, A.off + 3, none⟩ = some (.int .i64 t.a) := by
  obtain ⟨h0, h1, h2, h3⟩ := h
  rw [Addr.add_zero'] at h0
  rw [Addr.add_succ'] at h1 h2 h3
  simp only [Nat.zero_add, Nat.reduceAdd] at h1 h2 h3
  exact ⟨h0, h1, h2, h3⟩
end Go.Proofs.Ythmldhppmpbadaa.Lx
namespace Go.Proofs.Ythmldhppmpbadaa.Lx
open Go.RowKit Go.Proofs.Ythmldhppmpbadaa.Tx
set_option linter.unusedVariables false
set_option linter.unusedSimpArgs false
set_option maxRecDepth 100000

def strB (s : List UInt8) : Bool := decide (s.length ≤ 64) && s.all strN
theorem strB_long {s : List UInt8} (h : 64 < s.length) : strB s = false := by unfold strB; rw [decide_eq_false (by omega)]; rfl
theorem strB_in {s : List UInt8} (h : ¬ 64 < s.length) : strB s = s.all strN := by unfold strB; rw [decide_eq_true (by omega)]; rfl
theorem all_not {f : UInt8 → Bool} {s : List UInt8} {q : Nat} {c : UInt8} (h : s[q]? = some c) (hf : f c = false) : s.all f = false := by
  obtain ⟨hq, rfl⟩ := List.getElem?_eq_some_iff.1 h
  rw [Bool.eq_false_iff]
  intro ha
  have := List.all_eq_true.1 ha _ (List.getElem_mem hq)
  rw [hf] at this
  cases this
theorem all_on {f : UInt8 → Bool} {s : List UInt8} {q : Nat} {c : UInt8} (h : s[q]? = some c) (ha : (s.take q).all f = true) (hf : f c = true) : (s.take (q + 1)).all f = true := by
  obtain ⟨hq, rfl⟩ := List.getElem?_eq_some_iff.1 h
  rw [List.take_succ_eq_append_getElem hq, List.all_append, ha]
  simp [hf]
set_option maxHeartbeats 2000000 in
theorem string_any (s : List UInt8) (w : World) (hs : s.length ≤ 9223372036854775807) : Calls Try.prog 127 #[.string (bs s)] w fun e w' => e = .returned (.bool (strB s)) ∧ w' = w := by
  have hsz := bs_size s
  have hs' : (s.length : Int) ≤ 9223372036854775807 := by omega
  by_cases h64 : 64 < s.length
  · have k1 : (64 : Int) < s.length := by omega
    go_enter Try.func127, Try.ntmps127
    go_wp2
    go_ret
    refine ⟨?_, rfl⟩
    rw [strB_long h64]
    rfl
  · have k1 : ¬ (64 : Int) < s.length := by omega
    go_enter Try.func127, Try.ntmps127
    go_wp2
    go_loop [3] (fun iv => ∃ i : Nat, i ≤ s.length ∧ iv = .int .i64 i ∧ Hid ((s.take i).all strN = true)) (fun iv => s.length - (intOf iv).toNat)
    case atStart => exact ⟨0, Nat.zero_le _, rfl, hide (by simp)⟩
    case round =>
      obtain ⟨q, hq, rfl, HH⟩ := hrel
      by_cases hlt : q < s.length
      · have j1 : (q : Int) < s.length := by omega
        obtain ⟨c2, hc2⟩ : ∃ c, s[q] = c := ⟨_, rfl⟩
        have hb : ∀ h, (bs s)[q]'h = c2 := fun h => hc2
        have HSq := hide (show s[q]? = some c2 by rw [List.getElem?_eq_getElem hlt, hc2])
        obtain ⟨C, hC⟩ : ∃ C : Int, (c2.toNat : Int) = C := ⟨_, rfl⟩
        have HCc := hide hC
        clear hc2
        by_cases h32 : C < 32
        · have HS := hide (show strN c2 = false by simp [strN]; omega)
          go_wp2
          go_ret
          refine ⟨?_, rfl⟩
          rw [strB_in h64, all_not HSq.out HS.out]; rfl
        · by_cases h34 : C = 34
          · have n34 : (C == 34) = true := by rw [h34]; rfl
            have hc34 : c2 = 34 := UInt8.toNat_inj.1 (by show c2.toNat = 34; omega)
            have HS := hide (show strN c2 = false by rw [hc34]; decide)
            clear hc34
            go_wp2
            go_ret
            refine ⟨?_, rfl⟩
            rw [strB_in h64, all_not HSq.out HS.out]; rfl
          · have n34 : (C == 34) = false := by simpa using h34
            have HS := hide (show strN c2 = true by simp [strN]; constructor; omega; intro e; apply h34; rw [← hC, e]; rfl)
            go_wp2
            exact ⟨⟨q + 1, by omega, by go_num, hide (all_on HSq.out HH.out HS.out)⟩, by simp [intOf]; omega⟩
      · obtain rfl : q = s.length := by omega
        go_wp2
        go_ret
        refine ⟨?_, rfl⟩
        have := HH.out
        rw [List.take_length] at this
        rw [strB_in h64, this]
        rfl
end Go.Proofs.Ythmldhppmpbadaa.Lx
namespace Go.Proofs.Ythmldhppmpbadaa.Tr
open Go.RowKit Go.Proofs.Ythmldhppmpbadaa.Tx
set_option linter.unusedVariables false
set_option linter.unusedSimpArgs false

/- A cell; a slice of so many things, with all their cells. -/
inductive Dt where
  | c (v : Value)
  | s (n : Nat) (l : List Dt)
mutual
def isC (w : World) (ok : Nat → Prop) : Dt → Value → Prop
  | .c u, v => v = u
  | .s n l, v => ∃ o cp, v = .slice o n cp ∧ (o = none → n = 0 ∧ cp = 0) ∧ (l = [] ∨ ∃ a vs, o = some a ∧ ok a.block ∧ (∀ j u, vs[j]? = some u → w.cell? (a.add j) = some u) ∧ isV w ok l vs)
def isV (w : World) (ok : Nat → Prop) : List Dt → List Value → Prop
  | [], vs => vs = []
  | d :: ds, vs => ∃ v vs', vs = v :: vs' ∧ isC w ok d v ∧ isV w ok ds vs'
end
/- What stands in blocks that are good there stands in blocks that are good here. -/
def Fr (w : World) (ok : Nat → Prop) (w' : World) (ok' : Nat → Prop) : Prop := ∀ b, ok b → b < w.heap.size → ok' b ∧ w'.heap[b]? = w.heap[b]?
mutual
theorem isC.kept {w w' : World} {ok ok' : Nat → Prop} (h : Fr w ok w' ok') : ∀ (d : Dt) (v : Value), isC w ok d v → isC w' ok' d v
  | .c u, v => by simp only [isC]; exact id
  | .s n l, v => by
    simp only [isC]
    rintro ⟨o, cp, rfl, hz, hl⟩
    refine ⟨o, cp, rfl, hz, ?_⟩
    rcases hl with hl | ⟨a, vs, rfl, hok, hc, hv⟩
    · exact .inl hl
    · cases hvs : vs with
      | nil =>
        subst hvs
        cases l with
        | nil => exact .inl rfl
        | cons d ds => simp [isV] at hv
      | cons v0 vs' =>
        have h0 := hc 0 v0 (by rw [hvs]; rfl)
        have hb : a.block < w.heap.size := by
          have := World.block_lt_of_cell? w _ h0
          simpa [Addr.add] using this
        obtain ⟨k1, k2⟩ := h a.block hok hb
        refine .inr ⟨a, vs, rfl, k1, fun j u hu => ?_, isV.kept h l vs hv⟩
        have hbl : (a.add j).block = a.block := by unfold Addr.add; split <;> rfl
        rw [← hc j u hu]
        exact World.cell?_of_block (by rw [hbl]; exact k2)
theorem isV.kept {w w' : World} {ok ok' : Nat → Prop} (h : Fr w ok w' ok') : ∀ (ds : List Dt) (vs : List Value), isV w ok ds vs → isV w' ok' ds vs
  | [], vs => by simp only [isV]; exact id
  | d :: ds, vs => by
    simp only [isV]
    rintro ⟨v, vs', rfl, h1, h2⟩
    exact ⟨v, vs', rfl, isC.kept h d v h1, isV.kept h ds vs' h2⟩
end
theorem Fr.grow {w w' : World} {ok ok' : Nat → Prop} {x : Option Nat} (hg : w.grownBy w' x) (h : ∀ b, ok b → b < w.heap.size → ok' b) (hx : ∀ b, x = some b → ¬ ok b) : Fr w ok w' ok' := fun b hb hl =>
  ⟨h b hb hl, hg.block b hl (fun e => hx b e.symm hb)⟩
theorem Fr.none {w w' : World} {ok : Nat → Prop} (hg : w.grownBy w' none) : Fr w ok w' ok := Fr.grow hg (fun _ h _ => h) (fun _ h => by cases h)
theorem Fr.but {w w' : World} {ok : Nat → Prop} {b : Nat} (hg : w.grownBy w' (some b)) (hb : ¬ ok b) : Fr w ok w' ok := Fr.grow hg (fun _ h _ => h) (fun _ h => by cases h; exact hb)
theorem Fr.here {w : World} {ok ok' : Nat → Prop} (h : ∀ b, ok b → b < w.heap.size → ok' b) : Fr w ok w ok' := fun b hb hl => ⟨h b hb hl, rfl⟩
theorem isV_len {w : World} {ok : Nat → Prop} : ∀ (ds : List Dt) (vs : List Value), isV w ok ds vs → vs.length = ds.length
  | [], vs, h => by simp only [isV] at h; simp [h]
  | d :: ds, vs, h => by
    simp only [isV] at h
    obtain ⟨v, vs', rfl, _, h2⟩ := h
    simp [isV_len ds vs' h2]
theorem isV_app {w : World} {ok : Nat → Prop} : ∀ (a b : List Dt) (vs : List Value), isV w ok (a ++ b) vs ↔ ∃ v1 v2, vs = v1 ++ v2 ∧ isV w ok a v1 ∧ isV w ok b v2
  | [], b, vs => by
    simp only [List.nil_append, isV]
    constructor
    · intro h; exact ⟨[], vs, rfl, rfl, h⟩
    · rintro ⟨v1, v2, rfl, rfl, h⟩; exact h
  | d :: ds, b, vs => by
    simp only [List.cons_append, isV]
    constructor
    · rintro ⟨v, vs', rfl, h1, h2⟩
      obtain ⟨v1, v2, rfl, k1, k2⟩ := (isV_app ds b vs').1 h2
      exact ⟨v :: v1, v2, rfl, ⟨v, v1, rfl, h1, k1⟩, k2⟩
    · rintro ⟨v1, v2, rfl, ⟨v, vs', rfl, h1, h2⟩, h3⟩
      exact ⟨v, vs' ++ v2, rfl, h1, (isV_app ds b _).2 ⟨vs', v2, rfl, h2, h3⟩⟩
theorem isV_join {w : World} {ok : Nat → Prop} {a b : List Dt} {v1 v2 : List Value} (h1 : isV w ok a v1) (h2 : isV w ok b v2) : isV w ok (a ++ b) (v1 ++ v2) := (isV_app a b _).2 ⟨v1, v2, rfl, h1, h2⟩
/- One thing of a row of things of k cells each. -/
theorem isV_at {α : Type} {w : World} {ok : Nat → Prop} {enc : α → List Dt} {k : Nat} (hk : ∀ x, (enc x).length = k) : ∀ (l : List α) (vs : List Value), isV w ok (l.flatMap enc) vs → ∀ (i : Nat) (x : α), l[i]? = some x → ∃ us, isV w ok (enc x) us ∧ ∀ j u, us[j]? = some u → vs[i * k + j]? = some u
  | [], vs, _, i, x, hx => by simp at hx
  | y :: l, vs, h, i, x, hx => by
    rw [List.flatMap_cons] at h
    obtain ⟨v1, v2, rfl, h1, h2⟩ := (isV_app _ _ _).1 h
    have hl := isV_len _ _ h1
    rw [hk] at hl
    cases i with
    | zero =>
      simp at hx
      subst hx
      refine ⟨v1, h1, fun j u hu => ?_⟩
      have hj : j < v1.length := (List.getElem?_eq_some_iff.1 hu).1
      rw [Nat.zero_mul, Nat.zero_add, List.getElem?_append_left hj]
      exact hu
    | succ i =>
      obtain ⟨us, k1, k2⟩ := isV_at hk l v2 h2 i x (by simpa using hx)
      refine ⟨us, k1, fun j u hu => ?_⟩
      rw [List.getElem?_append_right (by rw [hl, Nat.succ_mul]; omega), hl, show (i + 1) * k + j - k = i * k + j by rw [Nat.succ_mul]; omega]
      exact k2 j u hu
theorem row_at {α : Type} {w : World} {ok : Nat → Prop} {enc : α → List Dt} {k : Nat} (hk : ∀ x, (enc x).length = k) (h0 : 0 < k) {l : List α} {n : Nat} {o : Option Addr} {m cp : Nat} (h : isC w ok (.s n (l.flatMap enc)) (.slice o m cp)) {i : Nat} {x : α} (hx : l[i]? = some x) :
    ∃ a us, o = some a ∧ ok a.block ∧ isV w ok (enc x) us ∧ ∀ j u, us[j]? = some u → w.cell? ((a.add (i * k)).add j) = some u := by
  simp only [isC] at h
  obtain ⟨o', cp', he, _, hl⟩ := h
  cases he
  rcases hl with hl | ⟨a, vs, rfl, hok, hc, hv⟩
  · have := (List.flatMap_eq_nil_iff.1 hl) x (List.mem_of_getElem? hx)
    have := hk x
    simp_all
  · obtain ⟨us, h1, h2⟩ := isV_at hk l vs hv i x hx
    refine ⟨a, us, rfl, hok, h1, fun j u hu => ?_⟩
    have := hc _ _ (h2 j u hu)
    rwa [show (a.add (i * k)).add j = a.add (i * k + j) by unfold Addr.add; split <;> split <;> split <;> simp_all <;> omega]
theorem isC_len {w : World} {ok : Nat → Prop} {n : Nat} {l : List Dt} {v : Value} (h : isC w ok (.s n l) v) : ∃ o cp, v = .slice o n cp := by
  simp only [isC] at h
  obtain ⟨o, cp, he, _, _⟩ := h
  exact ⟨o, cp, he⟩
/- A row of one's own reads so. -/
theorem own_isC {w : World} {ok : Nat → Prop} {B : Nat} {e : TypeId} {k : Nat} {v : Value} {n : Nat} {xs : List Value} {l : List Dt} (h : w.ownsRow B e k v n xs) (hb : ∀ g, v.ownBlock = some g → ok g) (hv : isV w ok l xs) : isC w ok (.s n l) v := by
  have hc := fun g hg => h.cells (g := g) hg
  rcases h.2 with ⟨rfl, rfl⟩ | ⟨g, cap, cur, rfl, hbg, hgg, _⟩
  · rw [isC.eq_2]
    have hl : xs = [] := List.eq_nil_of_length_eq_zero (by simpa using h.1)
    have := isV_len _ _ hv
    rw [hl] at this
    exact ⟨none, 0, rfl, fun _ => ⟨rfl, rfl⟩, .inl (List.eq_nil_of_length_eq_zero (by simpa using this.symm))⟩
  · rw [isC.eq_2]
    exact ⟨_, cap, rfl, (fun e => by cases e), .inr ⟨⟨g, 0, none⟩, xs, rfl, hb g rfl, hc g rfl, hv⟩⟩
end Go.Proofs.Ythmldhppmpbadaa.Tr
namespace Go.Proofs.Ythmldhppmpbadaa.Tr
open Go.RowKit Go.Proofs.Ythmldhppmpbadaa.Tx
set_option linter.unusedVariables false
set_option linter.unusedSimpArgs false

abbrev Txt := List UInt8
inductive Ex where
  | mk (k n : Int) (t o : Txt) (args : List Ex) (a : Int)
mutual
inductive Tx where
  | mk (k : Int) (md nm : Txt) (lens : List Ex) (elem base : List Tx) (fields params : List Fd) (result : List Tx) (a : Int)
inductive Fd where
  | mk (nm : Txt) (b : Bool) (ty : Tx) (a : Int)
end
inductive St where
  | mk (k : Int) (nm : Txt) (exprs : List Ex) (labels : List (List Ex)) (blocks : List (List St)) (a : Int)
structure Cn where
  nm : Txt
  b : Bool
  e : Ex
  a : Int
structure Im where
  al : Txt
  nm : Txt
  a : Int
structure Pr where
  nm : Txt
  b : Bool
  params : List Fd
  result : List Tx
  consts : List Cn
  types : List Fd
  vars : List Fd
  body : List St
  ret : List Ex
  a : Int
structure Md where
  nm : Txt
  imports : List Im
  consts : List Cn
  types : List Fd
  vars : List Fd
  procs : List Pr
  body : List St
  a : Int
namespace Ex
def k : Ex → Int | .mk k _ _ _ _ _ => k
def n : Ex → Int | .mk _ n _ _ _ _ => n
def t : Ex → Txt | .mk _ _ t _ _ _ => t
def o : Ex → Txt | .mk _ _ _ o _ _ => o
def args : Ex → List Ex | .mk _ _ _ _ l _ => l
def a : Ex → Int | .mk _ _ _ _ _ a => a
end Ex
namespace Tx
def k : Tx → Int | .mk k _ _ _ _ _ _ _ _ _ => k
def md : Tx → Txt | .mk _ x _ _ _ _ _ _ _ _ => x
def nm : Tx → Txt | .mk _ _ x _ _ _ _ _ _ _ => x
def lens : Tx → List Ex | .mk _ _ _ x _ _ _ _ _ _ => x
def elem : Tx → List Tx | .mk _ _ _ _ x _ _ _ _ _ => x
def base : Tx → List Tx | .mk _ _ _ _ _ x _ _ _ _ => x
def fields : Tx → List Fd | .mk _ _ _ _ _ _ x _ _ _ => x
def params : Tx → List Fd | .mk _ _ _ _ _ _ _ x _ _ => x
def result : Tx → List Tx | .mk _ _ _ _ _ _ _ _ x _ => x
def a : Tx → Int | .mk _ _ _ _ _ _ _ _ _ x => x
end Tx
namespace Fd
def nm : Fd → Txt | .mk x _ _ _ => x
def b : Fd → Bool | .mk _ x _ _ => x
def ty : Fd → Tx | .mk _ _ x _ => x
def a : Fd → Int | .mk _ _ _ x => x
end Fd
namespace St
def k : St → Int | .mk x _ _ _ _ _ => x
def nm : St → Txt | .mk _ x _ _ _ _ => x
def exprs : St → List Ex | .mk _ _ x _ _ _ => x
def labels : St → List (List Ex) | .mk _ _ _ x _ _ => x
def blocks : St → List (List St) | .mk _ _ _ _ x _ => x
def a : St → Int | .mk _ _ _ _ _ x => x
end St
def ci (n : Int) : Dt := .c (.int .i64 n)
def cb (b : Bool) : Dt := .c (.bool b)
def ct (t : Txt) : Dt := .c (.string (bs t))
mutual
def exD : Ex → List Dt
  | .mk k n t o args a => [ci k, ci n, ct t, ct o, .s args.length (exsD args), ci a]
def exsD : List Ex → List Dt
  | [] => []
  | e :: l => exD e ++ exsD l
end
mutual
def txD : Tx → List Dt
  | .mk k md nm lens elem base fields params result a => [ci k, ct md, ct nm, .s lens.length (exsD lens), .s elem.length (txsD elem), .s base.length (txsD base), .s fields.length (fdsD fields), .s params.length (fdsD params), .s result.length (txsD result), ci a]
def fdD : Fd → List Dt
  | .mk nm b ty a => ct nm :: cb b :: (txD ty ++ [ci a])
def txsD : List Tx → List Dt
  | [] => []
  | e :: l => txD e ++ txsD l
def fdsD : List Fd → List Dt
  | [] => []
  | e :: l => fdD e ++ fdsD l
end
def lbD (l : List Ex) : List Dt := [.s l.length (exsD l)]
mutual
def stD : St → List Dt
  | .mk k nm exprs labels blocks a => [ci k, ct nm, .s exprs.length (exsD exprs), .s labels.length (labels.flatMap lbD), .s blocks.length (bksD blocks), ci a]
def stsD : List St → List Dt
  | [] => []
  | e :: l => stD e ++ stsD l
def bksD : List (List St) → List Dt
  | [] => []
  | b :: l => .s b.length (stsD b) :: bksD l
end
def bkD (l : List St) : List Dt := [.s l.length (stsD l)]
theorem exsD_eq : ∀ (l : List Ex), exsD l = l.flatMap exD
  | [] => rfl
  | e :: l => by rw [exsD, List.flatMap_cons, exsD_eq l]
theorem txsD_eq : ∀ (l : List Tx), txsD l = l.flatMap txD
  | [] => rfl
  | e :: l => by rw [txsD, List.flatMap_cons, txsD_eq l]
theorem fdsD_eq : ∀ (l : List Fd), fdsD l = l.flatMap fdD
  | [] => rfl
  | e :: l => by rw [fdsD, List.flatMap_cons, fdsD_eq l]
theorem stsD_eq : ∀ (l : List St), stsD l = l.flatMap stD
  | [] => rfl
  | e :: l => by rw [stsD, List.flatMap_cons, stsD_eq l]
theorem bksD_eq : ∀ (l : List (List St)), bksD l = l.flatMap bkD
  | [] => rfl
  | e :: l => by rw [bksD, List.flatMap_cons, bksD_eq l]; rfl
theorem exD_len (e : Ex) : (exD e).length = 6 := by cases e; rfl
theorem txD_len (e : Tx) : (txD e).length = 10 := by cases e; rfl
theorem fdD_len (e : Fd) : (fdD e).length = 13 := by cases e; simp [fdD, txD_len]
theorem stD_len (e : St) : (stD e).length = 6 := by cases e; rfl
theorem lbD_len (e : List Ex) : (lbD e).length = 1 := rfl
theorem bkD_len (e : List St) : (bkD e).length = 1 := rfl
def cnD (x : Cn) : List Dt := ct x.nm :: cb x.b :: (exD x.e ++ [ci x.a])
theorem cnD_len (x : Cn) : (cnD x).length = 9 := by simp [cnD, exD_len]
def imD (x : Im) : List Dt := [ct x.al, ct x.nm, ci x.a]
theorem imD_len (x : Im) : (imD x).length = 3 := rfl
def prD (x : Pr) : List Dt := [ct x.nm, cb x.b, .s x.params.length (fdsD x.params), .s x.result.length (txsD x.result), .s x.consts.length (x.consts.flatMap cnD), .s x.types.length (fdsD x.types), .s x.vars.length (fdsD x.vars), .s x.body.length (stsD x.body), .s x.ret.length (exsD x.ret), ci x.a]
theorem prD_len (x : Pr) : (prD x).length = 10 := rfl
def mdD (x : Md) : List Dt := [ct x.nm, .s x.imports.length (x.imports.flatMap imD), .s x.consts.length (x.consts.flatMap cnD), .s x.types.length (fdsD x.types), .s x.vars.length (fdsD x.vars), .s x.procs.length (x.procs.flatMap prD), .s x.body.length (stsD x.body), ci x.a]
theorem mdD_len (x : Md) : (mdD x).length = 8 := rfl

/- Their cells, one by one. -/
section
variable {w : World} {ok : Nat → Prop}
theorem ex_cells {e : Ex} {vs : List Value} (h : isV w ok (exD e) vs) : ∃ sv, vs = [.int .i64 e.k, .int .i64 e.n, .string (bs e.t), .string (bs e.o), sv, .int .i64 e.a] ∧ isC w ok (.s e.args.length (exsD e.args)) sv := by
  obtain ⟨k, n, t, o, args, a⟩ := e
  simp only [exD, isV, ci, ct, isC.eq_1] at h
  obtain ⟨_, _, rfl, rfl, _, _, rfl, rfl, _, _, rfl, rfl, _, _, rfl, rfl, sv, _, rfl, hs, _, _, rfl, rfl, rfl⟩ := h
  exact ⟨sv, rfl, hs⟩
theorem ex_make {k n a : Int} {t o : Txt} {args : List Ex} {sv : Value} (h : isC w ok (.s args.length (exsD args)) sv) : isV w ok (exD (.mk k n t o args a)) [.int .i64 k, .int .i64 n, .string (bs t), .string (bs o), sv, .int .i64 a] := by
  simp only [exD, isV, ci, ct, isC.eq_1]
  exact ⟨_, _, rfl, rfl, _, _, rfl, rfl, _, _, rfl, rfl, _, _, rfl, rfl, sv, _, rfl, h, _, _, rfl, rfl, rfl⟩
theorem tx_cells {e : Tx} {vs : List Value} (h : isV w ok (txD e) vs) : ∃ s1 s2 s3 s4 s5 s6, vs = [.int .i64 e.k, .string (bs e.md), .string (bs e.nm), s1, s2, s3, s4, s5, s6, .int .i64 e.a] ∧ isC w ok (.s e.lens.length (exsD e.lens)) s1 ∧ isC w ok (.s e.elem.length (txsD e.elem)) s2 ∧ isC w ok (.s e.base.length (txsD e.base)) s3 ∧ isC w ok (.s e.fields.length (fdsD e.fields)) s4 ∧ isC w ok (.s e.params.length (fdsD e.params)) s5 ∧ isC w ok (.s e.result.length (txsD e.result)) s6 := by
  obtain ⟨k, md, nm, lens, elem, base, fields, params, result, a⟩ := e
  simp only [txD, isV, ci, ct, isC.eq_1] at h
  obtain ⟨_, _, rfl, rfl, _, _, rfl, rfl, _, _, rfl, rfl, s1, _, rfl, h1, s2, _, rfl, h2, s3, _, rfl, h3, s4, _, rfl, h4, s5, _, rfl, h5, s6, _, rfl, h6, _, _, rfl, rfl, rfl⟩ := h
  exact ⟨s1, s2, s3, s4, s5, s6, rfl, h1, h2, h3, h4, h5, h6⟩
theorem tx_make {k a : Int} {md nm : Txt} {lens : List Ex} {elem base result : List Tx} {fields params : List Fd} {s1 s2 s3 s4 s5 s6 : Value} (h1 : isC w ok (.s lens.length (exsD lens)) s1) (h2 : isC w ok (.s elem.length (txsD elem)) s2) (h3 : isC w ok (.s base.length (txsD base)) s3) (h4 : isC w ok (.s fields.length (fdsD fields)) s4) (h5 : isC w ok (.s params.length (fdsD params)) s5) (h6 : isC w ok (.s result.length (txsD result)) s6) :
    isV w ok (txD (.mk k md nm lens elem base fields params result a)) [.int .i64 k, .string (bs md), .string (bs nm), s1, s2, s3, s4, s5, s6, .int .i64 a] := by
  simp only [txD, isV, ci, ct, isC.eq_1]
  exact ⟨_, _, rfl, rfl, _, _, rfl, rfl, _, _, rfl, rfl, s1, _, rfl, h1, s2, _, rfl, h2, s3, _, rfl, h3, s4, _, rfl, h4, s5, _, rfl, h5, s6, _, rfl, h6, _, _, rfl, rfl, rfl⟩
theorem fd_cells {e : Fd} {vs : List Value} (h : isV w ok (fdD e) vs) : ∃ us, vs = .string (bs e.nm) :: .bool e.b :: (us ++ [.int .i64 e.a]) ∧ isV w ok (txD e.ty) us := by
  obtain ⟨nm, b, ty, a⟩ := e
  simp only [fdD, isV, ct, cb, isC.eq_1] at h
  obtain ⟨_, _, rfl, rfl, _, _, rfl, rfl, h⟩ := h
  obtain ⟨v1, v2, rfl, h1, h2⟩ := (isV_app _ _ _).1 h
  simp only [isV, ci, isC.eq_1] at h2
  obtain ⟨_, _, rfl, rfl, rfl⟩ := h2
  exact ⟨v1, rfl, h1⟩
theorem fd_make {nm : Txt} {b : Bool} {ty : Tx} {a : Int} {us : List Value} (h : isV w ok (txD ty) us) : isV w ok (fdD (.mk nm b ty a)) (.string (bs nm) :: .bool b :: (us ++ [.int .i64 a])) := by
  simp only [fdD, isV, ct, cb, isC.eq_1]
  refine ⟨_, _, rfl, rfl, _, _, rfl, rfl, isV_join h ?_⟩
  simp only [isV, ci, isC.eq_1]
  exact ⟨_, _, rfl, rfl, rfl⟩
theorem st_cells {e : St} {vs : List Value} (h : isV w ok (stD e) vs) : ∃ s1 s2 s3, vs = [.int .i64 e.k, .string (bs e.nm), s1, s2, s3, .int .i64 e.a] ∧ isC w ok (.s e.exprs.length (exsD e.exprs)) s1 ∧ isC w ok (.s e.labels.length (e.labels.flatMap lbD)) s2 ∧ isC w ok (.s e.blocks.length (bksD e.blocks)) s3 := by
  obtain ⟨k, nm, exprs, labels, blocks, a⟩ := e
  simp only [stD, isV, ci, ct, isC.eq_1] at h
  obtain ⟨_, _, rfl, rfl, _, _, rfl, rfl, s1, _, rfl, h1, s2, _, rfl, h2, s3, _, rfl, h3, _, _, rfl, rfl, rfl⟩ := h
  exact ⟨s1, s2, s3, rfl, h1, h2, h3⟩
theorem st_make {k a : Int} {nm : Txt} {exprs : List Ex} {labels : List (List Ex)} {blocks : List (List St)} {s1 s2 s3 : Value} (h1 : isC w ok (.s exprs.length (exsD exprs)) s1) (h2 : isC w ok (.s labels.length (labels.flatMap lbD)) s2) (h3 : isC w ok (.s blocks.length (bksD blocks)) s3) :
    isV w ok (stD (.mk k nm exprs labels blocks a)) [.int .i64 k, .string (bs nm), s1, s2, s3, .int .i64 a] := by
  simp only [stD, isV, ci, ct, isC.eq_1]
  exact ⟨_, _, rfl, rfl, _, _, rfl, rfl, s1, _, rfl, h1, s2, _, rfl, h2, s3, _, rfl, h3, _, _, rfl, rfl, rfl⟩
theorem lb_cells {e : List Ex} {vs : List Value} (h : isV w ok (lbD e) vs) : ∃ sv, vs = [sv] ∧ isC w ok (.s e.length (exsD e)) sv := by
  simp only [lbD, isV] at h
  obtain ⟨sv, _, rfl, hs, rfl⟩ := h
  exact ⟨sv, rfl, hs⟩
theorem lb_make {e : List Ex} {sv : Value} (h : isC w ok (.s e.length (exsD e)) sv) : isV w ok (lbD e) [sv] := by
  simp only [lbD, isV]
  exact ⟨sv, _, rfl, h, rfl⟩
theorem bk_cells {e : List St} {vs : List Value} (h : isV w ok (bkD e) vs) : ∃ sv, vs = [sv] ∧ isC w ok (.s e.length (stsD e)) sv := by
  simp only [bkD, isV] at h
  obtain ⟨sv, _, rfl, hs, rfl⟩ := h
  exact ⟨sv, rfl, hs⟩
theorem bk_make {e : List St} {sv : Value} (h : isC w ok (.s e.length (stsD e)) sv) : isV w ok (bkD e) [sv] := by
  simp only [bkD, isV]
  exact ⟨sv, _, rfl, h, rfl⟩
theorem cn_cells {e : Cn} {vs : List Value} (h : isV w ok (cnD e) vs) : ∃ us, vs = .string (bs e.nm) :: .bool e.b :: (us ++ [.int .i64 e.a]) ∧ isV w ok (exD e.e) us := by
  obtain ⟨nm, b, ty, a⟩ := e
  simp only [cnD, isV, ct, cb, isC.eq_1] at h
  obtain ⟨_, _, rfl, rfl, _, _, rfl, rfl, h⟩ := h
  obtain ⟨v1, v2, rfl, h1, h2⟩ := (isV_app _ _ _).1 h
  simp only [isV, ci, isC.eq_1] at h2
  obtain ⟨_, _, rfl, rfl, rfl⟩ := h2
  exact ⟨v1, rfl, h1⟩
theorem cn_make {nm : Txt} {b : Bool} {ty : Ex} {a : Int} {us : List Value} (h : isV w ok (exD ty) us) : isV w ok (cnD ⟨nm, b, ty, a⟩) (.string (bs nm) :: .bool b :: (us ++ [.int .i64 a])) := by
  simp only [cnD, isV, ct, cb, isC.eq_1]
  refine ⟨_, _, rfl, rfl, _, _, rfl, rfl, isV_join h ?_⟩
  simp only [isV, ci, isC.eq_1]
  exact ⟨_, _, rfl, rfl, rfl⟩
theorem im_cells {e : Im} {vs : List Value} (h : isV w ok (imD e) vs) : vs = [.string (bs e.al), .string (bs e.nm), .int .i64 e.a] := by
  simp only [imD, isV, ci, ct, isC.eq_1] at h
  obtain ⟨_, _, rfl, rfl, _, _, rfl, rfl, _, _, rfl, rfl, rfl⟩ := h
  rfl
theorem im_make {al nm : Txt} {a : Int} : isV w ok (imD ⟨al, nm, a⟩) [.string (bs al), .string (bs nm), .int .i64 a] := by
  simp only [imD, isV, ci, ct, isC.eq_1]
  exact ⟨_, _, rfl, rfl, _, _, rfl, rfl, _, _, rfl, rfl, rfl⟩
theorem pr_cells {e : Pr} {vs : List Value} (h : isV w ok (prD e) vs) : ∃ s1 s2 s3 s4 s5 s6 s7, vs = [.string (bs e.nm), .bool e.b, s1, s2, s3, s4, s5, s6, s7, .int .i64 e.a] ∧ isC w ok (.s e.params.length (fdsD e.params)) s1 ∧ isC w ok (.s e.result.length (txsD e.result)) s2 ∧ isC w ok (.s e.consts.length (e.consts.flatMap cnD)) s3 ∧ isC w ok (.s e.types.length (fdsD e.types)) s4 ∧ isC w ok (.s e.vars.length (fdsD e.vars)) s5 ∧ isC w ok (.s e.body.length (stsD e.body)) s6 ∧ isC w ok (.s e.ret.length (exsD e.ret)) s7 := by
  simp only [prD, isV, ci, ct, cb, isC.eq_1] at h
  obtain ⟨_, _, rfl, rfl, _, _, rfl, rfl, s1, _, rfl, h1, s2, _, rfl, h2, s3, _, rfl, h3, s4, _, rfl, h4, s5, _, rfl, h5, s6, _, rfl, h6, s7, _, rfl, h7, _, _, rfl, rfl, rfl⟩ := h
  exact ⟨s1, s2, s3, s4, s5, s6, s7, rfl, h1, h2, h3, h4, h5, h6, h7⟩
theorem pr_make {e : Pr} {s1 s2 s3 s4 s5 s6 s7 : Value} (h1 : isC w ok (.s e.params.length (fdsD e.params)) s1) (h2 : isC w ok (.s e.result.length (txsD e.result)) s2) (h3 : isC w ok (.s e.consts.length (e.consts.flatMap cnD)) s3) (h4 : isC w ok (.s e.types.length (fdsD e.types)) s4) (h5 : isC w ok (.s e.vars.length (fdsD e.vars)) s5) (h6 : isC w ok (.s e.body.length (stsD e.body)) s6) (h7 : isC w ok (.s e.ret.length (exsD e.ret)) s7) :
    isV w ok (prD e) [.string (bs e.nm), .bool e.b, s1, s2, s3, s4, s5, s6, s7, .int .i64 e.a] := by
  simp only [prD, isV, ci, ct, cb, isC.eq_1]
  exact ⟨_, _, rfl, rfl, _, _, rfl, rfl, s1, _, rfl, h1, s2, _, rfl, h2, s3, _, rfl, h3, s4, _, rfl, h4, s5, _, rfl, h5, s6, _, rfl, h6, s7, _, rfl, h7, _, _, rfl, rfl, rfl⟩
theorem md_cells {e : Md} {vs : List Value} (h : isV w ok (mdD e) vs) : ∃ s1 s2 s3 s4 s5 s6, vs = [.string (bs e.nm), s1, s2, s3, s4, s5, s6, .int .i64 e.a] ∧ isC w ok (.s e.imports.length (e.imports.flatMap imD)) s1 ∧ isC w ok (.s e.consts.length (e.consts.flatMap cnD)) s2 ∧ isC w ok (.s e.types.length (fdsD e.types)) s3 ∧ isC w ok (.s e.vars.length (fdsD e.vars)) s4 ∧ isC w ok (.s e.procs.length (e.procs.flatMap prD)) s5 ∧ isC w ok (.s e.body.length (stsD e.body)) s6 := by
  simp only [mdD, isV, ci, ct, cb, isC.eq_1] at h
  obtain ⟨_, _, rfl, rfl, s1, _, rfl, h1, s2, _, rfl, h2, s3, _, rfl, h3, s4, _, rfl, h4, s5, _, rfl, h5, s6, _, rfl, h6, _, _, rfl, rfl, rfl⟩ := h
  exact ⟨s1, s2, s3, s4, s5, s6, rfl, h1, h2, h3, h4, h5, h6⟩
theorem md_make {e : Md} {s1 s2 s3 s4 s5 s6 : Value} (h1 : isC w ok (.s e.imports.length (e.imports.flatMap imD)) s1) (h2 : isC w ok (.s e.consts.length (e.consts.flatMap cnD)) s2) (h3 : isC w ok (.s e.types.length (fdsD e.types)) s3) (h4 : isC w ok (.s e.vars.length (fdsD e.vars)) s4) (h5 : isC w ok (.s e.procs.length (e.procs.flatMap prD)) s5) (h6 : isC w ok (.s e.body.length (stsD e.body)) s6) :
    isV w ok (mdD e) [.string (bs e.nm), s1, s2, s3, s4, s5, s6, .int .i64 e.a] := by
  simp only [mdD, isV, ci, ct, cb, isC.eq_1]
  exact ⟨_, _, rfl, rfl, s1, _, rfl, h1, s2, _, rfl, h2, s3, _, rfl, h3, s4, _, rfl, h4, s5, _, rfl, h5, s6, _, rfl, h6, _, _, rfl, rfl, rfl⟩
theorem nil_isC : isC w ok (.s 0 []) (.slice none 0 0) := by
  rw [isC.eq_2]
  exact ⟨none, 0, rfl, fun _ => ⟨rfl, rfl⟩, .inl rfl⟩
end
end Go.Proofs.Ythmldhppmpbadaa.Tr
namespace Go.Proofs.Ythmldhppmpbadaa.Tr
open Go.RowKit Go.Proofs.Ythmldhppmpbadaa.Tx
set_option linter.unusedVariables false
set_option linter.unusedSimpArgs false

/- A variable: its block, its cells, its type. A row that is built: its slice, how many, their cells. -/
structure Lc where
  b : Nat
  cs : List Value
  t : TypeId
structure Rw where
  v : Value
  e : TypeId
  k : Nat
  n : Nat
  xs : List Value
def okL (w0 : World) (A : Nat → Prop) (L : List Lc) (Rs : List Rw) (b : Nat) : Prop := (A b ∨ w0.heap.size ≤ b) ∧ (∀ p ∈ L, p.b ≠ b) ∧ (∀ r ∈ Rs, r.v.ownBlock ≠ some b)
structure Cx (w0 : World) (A : Nat → Prop) (X : Option Nat) (L : List Lc) (Rs : List Rw) (Ts : List (List Dt × List Value)) (w : World) : Prop where
  grown : w0.grownBy w X
  loc : ∀ p ∈ L, w.heap[p.b]? = some (.cells p.cs.toArray p.t (0, 0))
  old : ∀ p ∈ L, w0.heap.size ≤ p.b ∨ X = some p.b
  dis : L.Pairwise (fun p q => p.b ≠ q.b)
  row : ∀ r ∈ Rs, w.ownsRow w0.heap.size r.e r.k r.v r.n r.xs
  rl : ∀ r ∈ Rs, ∀ p ∈ L, r.v.ownBlock ≠ some p.b
  rr : Rs.Pairwise (fun r s => r.v.ownBlock = none ∨ r.v.ownBlock ≠ s.v.ownBlock)
  tr : ∀ p ∈ Ts, isV w (okL w0 A L Rs) p.1 p.2
  xx : ∀ x, X = some x → x < w0.heap.size
section
variable {w0 w w' : World} {A : Nat → Prop} {X : Option Nat} {L : List Lc} {Rs : List Rw} {Ts : List (List Dt × List Value)}
theorem grown_then {w0 w w' : World} {X Y : Option Nat} (h : w0.grownBy w X) (k : w.grownBy w' Y) (hy : ∀ y, Y = some y → X = some y ∨ w0.heap.size ≤ y) : w0.grownBy w' X :=
  ⟨k.os.trans h.os, k.tape.trans h.tape, k.output.trans h.output, Nat.le_trans h.size k.size, fun i hi hx => by
    rw [k.block i (Nat.lt_of_lt_of_le hi h.size) (fun e => ?_)]
    · exact h.block i hi hx
    · rcases hy i e.symm with e2 | e2
      · exact hx e2.symm
      · omega⟩
theorem grown_refl (w : World) (X : Option Nat) : w.grownBy w X := ⟨rfl, rfl, rfl, Nat.le_refl _, fun _ _ _ => rfl⟩
theorem Cx.lt (H : Cx w0 A X L Rs Ts w) {p : Lc} (hp : p ∈ L) : p.b < w.heap.size := (Array.getElem?_eq_some_iff.1 (H.loc p hp)).1
/- The beginning: nothing is there yet. -/
theorem Cx.start (w : World) (A : Nat → Prop) : Cx w A none [] [] [] w :=
  ⟨grown_refl w _, by simp, by simp, List.Pairwise.nil, by simp, by simp, List.Pairwise.nil, by simp, by simp⟩
/- Nothing that was there turns. -/
theorem Cx.g (H : Cx w0 A X L Rs Ts w) (hg : w.grownBy w' none) : Cx w0 A X L Rs Ts w' where
  grown := grown_then H.grown hg (fun y h => by cases h)
  loc := fun p hp => by rw [hg.block p.b (H.lt hp) (by simp)]; exact H.loc p hp
  old := H.old
  dis := H.dis
  row := fun r hr => (H.row r hr).kept hg (by cases r.v.ownBlock <;> simp)
  rl := H.rl
  rr := H.rr
  tr := fun p hp => isV.kept (Fr.none hg) _ _ (H.tr p hp)
  xx := H.xx
/- A block more, that is a variable's. -/
theorem Cx.loc_new (H : Cx w0 A X L Rs Ts w) (cs : List Value) (t : TypeId) : Cx w0 A X (⟨w.heap.size, cs, t⟩ :: L) Rs Ts (w.alloc (.cells cs.toArray t)) := by
  have hg : w.grownBy (w.alloc (.cells cs.toArray t)) none := World.grownBy_alloc w _ none
  have H' := H.g hg
  have hrl : ∀ r ∈ Rs, r.v.ownBlock ≠ some w.heap.size := fun r hr e => by have := ((H.row r hr).lt _ e).2; omega
  refine ⟨H'.grown, ?_, ?_, ?_, H'.row, ?_, H'.rr, ?_, H.xx⟩
  · intro p hp
    rcases List.mem_cons.1 hp with rfl | hp
    · exact heap_alloc_new w _
    · exact H'.loc p hp
  · intro p hp
    rcases List.mem_cons.1 hp with rfl | hp
    · exact .inl H.grown.size
    · exact H.old p hp
  · refine List.pairwise_cons.2 ⟨fun p hp e => ?_, H.dis⟩
    have := H.lt hp
    simp at e
    omega
  · intro r hr p hp
    rcases List.mem_cons.1 hp with rfl | hp
    · exact hrl r hr
    · exact H.rl r hr p hp
  · intro p hp
    refine isV.kept (Fr.grow hg (fun b hb hl => ⟨hb.1, fun q hq => ?_, hb.2.2⟩) (fun b h => by cases h)) _ _ (H.tr p hp)
    rcases List.mem_cons.1 hq with rfl | hq
    · simp only; omega
    · exact hb.2.1 q hq
/- A block more, that is a tree's. -/
theorem Cx.tree_new (H : Cx w0 A X L Rs Ts w) (t : TypeId) {ds : List Dt} {vs : List Value} (n : Nat) (hv : isV w (okL w0 A L Rs) ds vs) : Cx w0 A X L Rs (([.s n ds], [.slice (some ⟨w.heap.size, 0, none⟩) n n]) :: Ts) (w.alloc (.cells vs.toArray t)) := by
  have hg : w.grownBy (w.alloc (.cells vs.toArray t)) none := World.grownBy_alloc w _ none
  have H' := H.g hg
  refine ⟨H'.grown, H'.loc, H'.old, H'.dis, H'.row, H'.rl, H'.rr, ?_, H.xx⟩
  intro p hp
  rcases List.mem_cons.1 hp with rfl | hp
  · simp only [isV]
    refine ⟨_, _, rfl, ((isC.eq_2 ..).mpr ⟨_, _, rfl, (fun e => by cases e), .inr ⟨_, vs, rfl, ⟨.inr H.grown.size, fun q hq e => ?_, fun r hr e => ?_⟩, fun j u hu => ?_, isV.kept (Fr.none hg) _ _ hv⟩⟩), rfl⟩
    · have := H.lt hq; simp only at e; omega
    · have := ((H.row r hr).lt _ e).2; simp only at this; omega
    · have hadd : (⟨w.heap.size, 0, none⟩ : Addr).add j = ⟨w.heap.size, j, none⟩ := by unfold Addr.add; split <;> simp_all
      rw [hadd, cell_of_row _ _ _ _ _ _ (heap_alloc_new _ _)]
      simpa using hu
  · exact H'.tr p hp
/- A variable is written. -/
inductive Upd (b : Nat) (cs' : List Value) : List Lc → List Lc → Prop where
  | here (cs : List Value) (t : TypeId) (L : List Lc) : Upd b cs' (⟨b, cs, t⟩ :: L) (⟨b, cs', t⟩ :: L)
  | there (p : Lc) {L L' : List Lc} : Upd b cs' L L' → Upd b cs' (p :: L) (p :: L')
theorem Upd.map {b : Nat} {cs' : List Value} {L L' : List Lc} (h : Upd b cs' L L') : L'.map (·.b) = L.map (·.b) := by
  induction h with
  | here cs t L => rfl
  | there p _ ih => simp [ih]
theorem Upd.mem {b : Nat} {cs' : List Value} {L L' : List Lc} (h : Upd b cs' L L') : ∀ p ∈ L', (p.b = b ∧ p.cs = cs' ∧ ∃ cs, ⟨b, cs, p.t⟩ ∈ L) ∨ p ∈ L := by
  induction h with
  | here cs t L =>
    intro p hp
    rcases List.mem_cons.1 hp with rfl | hp
    · exact .inl ⟨rfl, rfl, cs, .head _⟩
    · exact .inr (.tail _ hp)
  | there q _ ih =>
    intro p hp
    rcases List.mem_cons.1 hp with rfl | hp
    · exact .inr (.head _)
    · rcases ih p hp with ⟨h1, h2, cs, h3⟩ | h
      · exact .inl ⟨h1, h2, cs, .tail _ h3⟩
      · exact .inr (.tail _ h)
theorem Upd.new {b : Nat} {cs' : List Value} {L L' : List Lc} (h : Upd b cs' L L') : ∃ cs t, ⟨b, cs, t⟩ ∈ L ∧ ⟨b, cs', t⟩ ∈ L' := by
  induction h with
  | here cs t L => exact ⟨cs, t, .head _, .head _⟩
  | there p _ ih =>
    obtain ⟨cs, t, h1, h2⟩ := ih
    exact ⟨cs, t, .tail _ h1, .tail _ h2⟩
theorem mem_blocks {L L' : List Lc} (h : L'.map (·.b) = L.map (·.b)) {P : Nat → Prop} (hp : ∀ p ∈ L, P p.b) : ∀ p ∈ L', P p.b := fun p hp' => by
  have : p.b ∈ L.map (·.b) := by rw [← h]; exact List.mem_map.2 ⟨p, hp', rfl⟩
  obtain ⟨q, hq, e⟩ := List.mem_map.1 this
  rw [← e]
  exact hp q hq
theorem dis_of {L L' : List Lc} (h : L'.map (·.b) = L.map (·.b)) (hd : L.Pairwise (fun p q => p.b ≠ q.b)) : L'.Pairwise (fun p q => p.b ≠ q.b) := by
  rw [show (fun p q : Lc => p.b ≠ q.b) = (fun p q => (fun a b : Nat => a ≠ b) p.b q.b) from rfl, ← List.pairwise_map] at hd ⊢
  rw [h]
  exact hd
theorem uniq_of {L : List Lc} (hd : L.Pairwise (fun p q => p.b ≠ q.b)) {p q : Lc} (hp : p ∈ L) (hq : q ∈ L) (e : p.b = q.b) : p = q := by
  induction hd with
  | nil => cases hp
  | cons h1 _ ih =>
    rcases List.mem_cons.1 hp with hp1 | hp1
    · rcases List.mem_cons.1 hq with hq1 | hq1
      · rw [hp1, hq1]
      · rw [hp1] at e; exact absurd e (h1 q hq1)
    · rcases List.mem_cons.1 hq with hq1 | hq1
      · rw [hq1] at e; exact absurd e.symm (h1 p hp1)
      · exact ih hp1 hq1
theorem Cx.loc_set (H : Cx w0 A X L Rs Ts w) {b : Nat} {cs cs' : List Value} {t : TypeId} {L' : List Lc} (hm : ⟨b, cs, t⟩ ∈ L) (hu : Upd b cs' L L') : Cx w0 A X L' Rs Ts (w.setRow b cs'.toArray) := by
  have hb := H.loc _ hm
  have hg : w.grownBy (w.setRow b cs'.toArray) (some b) := ⟨rfl, rfl, rfl, by simp, fun k _ hk => setRow_other w b k _ (fun e => hk (by rw [e]))⟩
  have hold := H.old _ hm
  refine ⟨grown_then H.grown hg (fun y e => by cases e; exact hold.symm), ?_, mem_blocks (P := fun b => w0.heap.size ≤ b ∨ X = some b) hu.map H.old, dis_of hu.map H.dis, ?_, fun r hr => mem_blocks (P := fun b => r.v.ownBlock ≠ some b) hu.map (H.rl r hr), H.rr, ?_, H.xx⟩
  · intro p hp
    by_cases e : p.b = b
    · obtain ⟨cs1, t1, k1, k2⟩ := hu.new
      have e1 := uniq_of H.dis k1 hm rfl
      have e2 := uniq_of (dis_of hu.map H.dis) hp k2 e
      cases e1
      subst e2
      exact setRow_heap w _ _ _ _ _ hb
    · rcases hu.mem p hp with ⟨h1, _⟩ | h
      · exact absurd h1 e
      · rw [setRow_other w b p.b _ e]
        exact H.loc p h
  · intro r hr
    exact (H.row r hr).kept hg (.inr (by rw [show (some b : Option Nat) = some (Lc.mk b cs t).b from rfl]; exact H.rl r hr _ hm))
  · intro p hp
    refine isV.kept (Fr.grow hg (fun c hc _ => ⟨hc.1, mem_blocks (P := fun b => b ≠ c) hu.map hc.2.1, hc.2.2⟩) (fun c e hc => ?_)) _ _ (H.tr p hp)
    cases e
    exact hc.2.1 _ hm rfl
end
end Go.Proofs.Ythmldhppmpbadaa.Tr
namespace Go.Proofs.Ythmldhppmpbadaa.Tr
open Go.RowKit Go.Proofs.Ythmldhppmpbadaa.Tx
set_option linter.unusedVariables false
set_option linter.unusedSimpArgs false

/- Cells at a place of a list. -/
inductive GetS : Nat → List Value → List Value → Prop where
  | nil (cs : List Value) : GetS 0 [] cs
  | cons (u : Value) {us cs : List Value} : GetS 0 us cs → GetS 0 (u :: us) (u :: cs)
  | skip (v : Value) {n : Nat} {us cs : List Value} : GetS n us cs → GetS (n + 1) us (v :: cs)
inductive PutS : Nat → List Value → List Value → List Value → Prop where
  | nil (cs : List Value) : PutS 0 [] cs cs
  | cons (u v : Value) {us cs cs' : List Value} : PutS 0 us cs cs' → PutS 0 (u :: us) (v :: cs) (u :: cs')
  | skip (v : Value) {n : Nat} {us cs cs' : List Value} : PutS n us cs cs' → PutS (n + 1) us (v :: cs) (v :: cs')
theorem GetS.get {n : Nat} {us cs : List Value} (h : GetS n us cs) : ∀ j u, us[j]? = some u → cs[n + j]? = some u := by
  induction h with
  | nil cs => intro j u hu; simp at hu
  | cons v _ ih =>
    intro j u hu
    cases j with
    | zero => simpa using hu
    | succ j => have := ih j u (by simpa using hu); simpa using this
  | skip v _ ih =>
    intro j u hu
    have := ih j u hu
    rw [Nat.add_right_comm]
    simpa using this
theorem PutS.put {n : Nat} {us cs cs' : List Value} (h : PutS n us cs cs') : cs' = cs.take n ++ us ++ cs.drop (n + us.length) ∧ n + us.length ≤ cs.length := by
  induction h with
  | nil cs => simp
  | cons u v _ ih =>
    obtain ⟨h1, h2⟩ := ih
    constructor
    · simp at h1
      simp [← h1]
    · simp at h2 ⊢; omega
  | skip v _ ih =>
    obtain ⟨h1, h2⟩ := ih
    constructor
    · rw [h1, Nat.add_right_comm]; simp
    · simp; omega
structure TyS (P : Program) (T : TypeId) (k : Nat) : Prop where
  ag : ∀ w, (isAgg T).run P w = .ok true w
  sz : (P.info? T).map (·.size) = some k
structure TyC (P : Program) (T : TypeId) : Prop where
  ag : ∀ w, (isAgg T).run P w = .ok false w
  sz : (P.info? T).map (·.size) = some 1
section
variable {P : Program} {ops : Array Oper} {rest : List Oper} {o : Oper} {a : Act} {w w0 : World} {Q : Exit → Act → World → Prop}
  {A : Nat → Prop} {X : Option Nat} {L L' : List Lc} {Rs : List Rw} {Ts : List (List Dt × List Value)}
theorem wl_val {v : Value} {w' : World} (hgd : o.guard = none) (hr : (execOp a.eval o).run P w = .ok (.value v) w') (h : wpList P ops Q rest (a.put o.dst v) w') : wpList P ops Q (o :: rest) a w :=
  wpList_plain hgd fun K hK => by unfold Oper.wp; rw [hr]; exact hK _ _ h
theorem wl_skip {w' : World} (hgd : o.guard = none) (hr : (execOp a.eval o).run P w = .ok .skip w') (h : wpList P ops Q rest (a.put o.dst undef) w') : wpList P ops Q (o :: rest) a w :=
  wpList_plain hgd fun K hK => by unfold Oper.wp; rw [hr]; exact hK _ _ h
theorem run_size {T k : Nat} (h : (P.info? T).map (·.size) = some k) (w : World) : (sizeOf T).run P w = .ok k w := by
  cases hi : P.info? T with
  | none => simp [hi] at h
  | some i =>
    simp [hi] at h
    simp [sizeOf, typeInfo, hi, h]
structure NX (X : Option Nat) (b : Nat) : Prop where
  ne : some b ≠ X
theorem Cx.nx (H : Cx w0 A X L Rs Ts w) : NX X w.heap.size := ⟨fun e => by have := H.xx _ e.symm; have := H.grown.size; omega⟩
/- A variable of its own, at zero. -/
theorem wl_alloc (hgd : o.guard = none) (T : TypeId) (ho : o.op = .alloc T) (zs : List Value) (hz : (P.info? T).bind (fun i => i.zero.map (·.cells)) = some zs.toArray) (H : Cx w0 A X L Rs Ts w)
    (h : ∀ b w', NX X b → Cx w0 A X (⟨b, zs, T⟩ :: L) Rs Ts w' → wpList P ops Q rest (a.put o.dst (.pointer (some ⟨b, 0, none⟩))) w') : wpList P ops Q (o :: rest) a w := by
  cases hi : P.info? T with
  | none => simp [hi] at hz
  | some i =>
    cases hzz : i.zero with
    | none => simp [hi, hzz] at hz
    | some z =>
      simp [hi, hzz] at hz
      refine wl_val (w' := w.alloc (.cells zs.toArray T)) hgd ?_ (h w.heap.size _ H.nx (H.loc_new zs T))
      unfold execOp
      simp [ho, Instr.alloc, zeroValue, typeInfo, hi, hzz, newVar, newRow, hz]
theorem wl_box (hgd : o.guard = none) (T : TypeId) (x : Operand) (ho : o.op = .box T x) (cs : List Value) (hx : (a.eval x).cells = cs.toArray) (H : Cx w0 A X L Rs Ts w)
    (h : ∀ b w', NX X b → Cx w0 A X (⟨b, cs, T⟩ :: L) Rs Ts w' → wpList P ops Q rest (a.put o.dst (.pointer (some ⟨b, 0, none⟩))) w') : wpList P ops Q (o :: rest) a w := by
  refine wl_val (w' := w.alloc (.cells cs.toArray T)) hgd ?_ (h w.heap.size _ H.nx (H.loc_new cs T))
  unfold execOp
  simp [ho, Instr.box, newVar, newRow, hx]
theorem cells_at (H : Cx w0 A X L Rs Ts w) {b : Nat} {cs : List Value} {t : TypeId} (hm : ⟨b, cs, t⟩ ∈ L) {off : Nat} {us : List Value} (hg : GetS off us cs) : ∀ j u, us[j]? = some u → w.cell? ((⟨b, off, none⟩ : Addr).add j) = some u := fun j u hu => by
  have hadd : (⟨b, off, none⟩ : Addr).add j = ⟨b, off + j, none⟩ := by unfold Addr.add; split <;> simp_all
  rw [hadd, cell_of_row _ _ _ _ _ _ (H.loc _ hm)]
  simpa using hg.get j u hu
theorem run_load_s {T k : Nat} (hT : TyS P T k) (ad : Addr) (us : List Value) (hk : us.length = k) (hc : ∀ j u, us[j]? = some u → w.cell? (ad.add j) = some u) : (loadVar T ad).run P w = .ok (.agg us.toArray) w := by
  have := run_loadCells_list (P := P) w ad us hc
  rw [hk] at this
  simp [loadVar, hT.ag, run_size hT.sz, this]
theorem run_load_c {T : Nat} (hT : TyC P T) (ad : Addr) (u : Value) (hc : w.cell? ad = some u) : (loadVar T ad).run P w = .ok u w := by
  simp [loadVar, hT.ag, hc, go_sem]
theorem wl_load_s (hgd : o.guard = none) (T : TypeId) (x : Operand) (ho : o.op = .load T x) {k : Nat} (hT : TyS P T k) {b off : Nat} (hx : a.eval x = .pointer (some ⟨b, off, none⟩)) (H : Cx w0 A X L Rs Ts w) {cs : List Value} {t : TypeId} (hm : ⟨b, cs, t⟩ ∈ L) {us : List Value} (hg : GetS off us cs) (hk : us.length = k)
    (h : wpList P ops Q rest (a.put o.dst (.agg us.toArray)) w) : wpList P ops Q (o :: rest) a w := by
  refine wl_val hgd ?_ h
  unfold execOp
  simp [ho, hx, Instr.loadAt, Instr.sureAddr, run_load_s hT _ us hk (cells_at H hm hg)]
theorem wl_load_c (hgd : o.guard = none) (T : TypeId) (x : Operand) (ho : o.op = .load T x) (hT : TyC P T) {b off : Nat} (hx : a.eval x = .pointer (some ⟨b, off, none⟩)) (H : Cx w0 A X L Rs Ts w) {cs : List Value} {t : TypeId} (hm : ⟨b, cs, t⟩ ∈ L) {u : Value} (hg : GetS off [u] cs)
    (h : wpList P ops Q rest (a.put o.dst u) w) : wpList P ops Q (o :: rest) a w := by
  refine wl_val hgd ?_ h
  unfold execOp
  have := cells_at H hm hg 0 u rfl
  rw [Addr.add_zero'] at this
  simp [ho, hx, Instr.loadAt, Instr.sureAddr, run_load_c hT _ u this]
theorem run_store_at (H : Cx w0 A X L Rs Ts w) {b : Nat} {cs cs' : List Value} {t : TypeId} (hm : ⟨b, cs, t⟩ ∈ L) {T : TypeId} {off : Nat} {v : Value} {us : List Value} (hv : v.cells = us.toArray) (hs : (P.info? T).map (·.size) = some us.length) (hp : PutS off us cs cs') (h1 : us.all (·.oneCell') = true) :
    (storeVar T ⟨b, off, none⟩ v).run P w = .ok () (w.setRow b cs'.toArray) := by
  obtain ⟨h2, h3⟩ := hp.put
  have := run_storeCells_at P b off t us 0 cs.toArray w (H.loc _ hm) (by simpa using h3) (fun v hv => List.all_eq_true.1 h1 v hv)
  simp only [Nat.add_zero] at this
  rw [← h2] at this
  simp [storeVar, hv, run_size hs, this]
theorem wl_store (hgd : o.guard = none) (T : TypeId) (x y : Operand) (ho : o.op = .store T x y) {b off : Nat} (hx : a.eval x = .pointer (some ⟨b, off, none⟩)) {us : List Value} (hv : (a.eval y).cells = us.toArray) (hs : (P.info? T).map (·.size) = some us.length) (h1 : us.all (·.oneCell') = true) (H : Cx w0 A X L Rs Ts w) {cs cs' : List Value} {t : TypeId} (hm : ⟨b, cs, t⟩ ∈ L) (hp : PutS off us cs cs') (hu : Upd b cs' L L')
    (h : ∀ w', Cx w0 A X L' Rs Ts w' → wpList P ops Q rest (a.put o.dst undef) w') : wpList P ops Q (o :: rest) a w := by
  refine wl_skip (w' := w.setRow b cs'.toArray) hgd ?_ (h _ (H.loc_set hm hu))
  unfold execOp
  simp [ho, hx, Instr.storeAt, Instr.sureAddr, run_store_at H hm hv hs hp h1]
/- A slice literal becomes a tree. -/
def bsCells (P : Program) (T : TypeId) (n : Nat) (parts : List (Nat × Value)) : Option (TypeId × Array Value) := match P.underlying T with
  | some (.slice e) => match P.info? e with
    | some ie => match ie.zero with
      | some z => if n * ie.size > 2 ^ 24 then none else if n * ie.size = 0 then none else (Instr.fill (fun i => some (i * ie.size, ie.size)) ((Array.range (n * ie.size)).map (z.cells[· % z.cells.size]!)) parts).map fun c => (e, c)
      | none => none
    | none => none
  | _ => none
theorem run_bs {T n e : Nat} {parts : Array (Nat × Value)} {vs : List Value} (h : bsCells P T n parts.toList = some (e, vs.toArray)) (w : World) : (Instr.buildSlice T n parts).run P w = .ok (.slice (some ⟨w.heap.size, 0, none⟩) n n) (w.alloc (.cells vs.toArray e)) := by
  unfold bsCells at h
  split at h
  · rename_i e' hu
    split at h
    · rename_i ie hie
      split at h
      · rename_i z hz
        split at h
        · cases h
        · rename_i h1
          split at h
          · cases h
          · rename_i h2
            cases hf : Instr.fill (fun i => some (i * ie.size, ie.size)) ((Array.range (n * ie.size)).map (z.cells[· % z.cells.size]!)) parts.toList with
            | none => simp [hf] at h
            | some c =>
              simp [hf] at h
              obtain ⟨rfl, rfl⟩ := h
              exact run_buildSlice w T _ n parts _ ie z hu hie hz h1 h2 hf
      · cases h
    · cases h
  · cases h
theorem wl_bsT (hgd : o.guard = none) (T : TypeId) (n : Nat) (parts : Array (Nat × Operand)) (ho : o.op = .buildSlice T n parts) {e : TypeId} {vs : List Value} (hf : bsCells P T n (parts.map fun (i, x) => (i, a.eval x)).toList = some (e, vs.toArray)) (H : Cx w0 A X L Rs Ts w) {ds : List Dt} (hv : isV w (okL w0 A L Rs) ds vs)
    (h : ∀ b w', Cx w0 A X L Rs (([.s n ds], [.slice (some ⟨b, 0, none⟩) n n]) :: Ts) w' → wpList P ops Q rest (a.put o.dst (.slice (some ⟨b, 0, none⟩) n n)) w') : wpList P ops Q (o :: rest) a w := by
  refine wl_val (w' := w.alloc (.cells vs.toArray e)) hgd ?_ (h w.heap.size _ (H.tree_new e n hv))
  unfold execOp
  simp [ho, run_bs hf]
/- A call that turns nothing that was there; one that turns X alone. -/
theorem Cx.add (H : Cx w0 A X L Rs Ts w) {ds : List Dt} {vs : List Value} (hv : isV w (okL w0 A L Rs) ds vs) : Cx w0 A X L Rs ((ds, vs) :: Ts) w :=
  ⟨H.grown, H.loc, H.old, H.dis, H.row, H.rl, H.rr, fun p hp => by
    rcases List.mem_cons.1 hp with rfl | hp
    · exact hv
    · exact H.tr p hp, H.xx⟩
theorem Cx.okNew (H : Cx w0 A X L Rs Ts w) {b : Nat} (h : w.heap.size ≤ b) : okL w0 A L Rs b :=
  ⟨.inr (Nat.le_trans H.grown.size h), fun p hp e => by have := H.lt hp; omega, fun r hr e => by have := ((H.row r hr).lt _ e).2; omega⟩
theorem Cx.callX {x : Nat} {cs cs' : List Value} {t : TypeId} {w' : World} (H : Cx w0 A (some x) L Rs Ts w) (hg : w.grownBy w' (some x)) (hm : ⟨x, cs, t⟩ ∈ L) (hh : w'.heap[x]? = some (.cells cs'.toArray t (0, 0))) (hu : Upd x cs' L L') : Cx w0 A (some x) L' Rs Ts w' := by
  refine ⟨grown_then H.grown hg (fun y e => by cases e; exact .inl rfl), ?_, mem_blocks (P := fun b => w0.heap.size ≤ b ∨ some x = some b) hu.map H.old, dis_of hu.map H.dis, ?_, fun r hr => mem_blocks (P := fun b => r.v.ownBlock ≠ some b) hu.map (H.rl r hr), H.rr, ?_, H.xx⟩
  · intro p hp
    by_cases e : p.b = x
    · obtain ⟨cs1, t1, k1, k2⟩ := hu.new
      have e1 := uniq_of H.dis k1 hm rfl
      have e2 := uniq_of (dis_of hu.map H.dis) hp k2 e
      cases e1
      subst e2
      exact hh
    · rcases hu.mem p hp with ⟨h1, _⟩ | h
      · exact absurd h1 e
      · rw [hg.block p.b (H.lt h) (fun e2 => e (by simpa using e2))]
        exact H.loc p h
  · intro r hr
    exact (H.row r hr).kept hg (.inr (H.rl r hr _ hm))
  · intro p hp
    refine isV.kept (Fr.grow hg (fun c hc _ => ⟨hc.1, mem_blocks (P := fun b => b ≠ c) hu.map hc.2.1, hc.2.2⟩) (fun c e hc => ?_)) _ _ (H.tr p hp)
    cases e
    exact hc.2.1 _ hm rfl
theorem Cx.callX_k {x : Nat} {cs cs' : List Value} {t : TypeId} {w' : World} {G : Prop} (H : Cx w0 A (some x) L Rs Ts w) (hg : w.grownBy w' (some x)) (hm : ⟨x, cs, t⟩ ∈ L) (hh : w'.heap[x]? = some (.cells cs'.toArray t (0, 0))) (hu : Upd x cs' L L') (h : Cx w0 A (some x) L' Rs Ts w' → G) : G := h (H.callX hg hm hh hu)
/- Rows. -/
theorem Cx.row_nil (H : Cx w0 A X L Rs Ts w) (e : TypeId) (k : Nat) : Cx w0 A X L (⟨.slice none 0 0, e, k, 0, []⟩ :: Rs) Ts w :=
  ⟨H.grown, H.loc, H.old, H.dis, fun r hr => by
    rcases List.mem_cons.1 hr with rfl | hr
    · exact World.ownsRow_nil w _ e k
    · exact H.row r hr, fun r hr => by
    rcases List.mem_cons.1 hr with rfl | hr
    · intro p hp e; cases e
    · exact H.rl r hr, List.pairwise_cons.2 ⟨fun _ _ => .inl rfl, H.rr⟩, fun p hp => isV.kept (Fr.here (fun b hb _ => ⟨hb.1, hb.2.1, fun r hr => by
    rcases List.mem_cons.1 hr with rfl | hr
    · intro e; cases e
    · exact hb.2.2 r hr⟩)) _ _ (H.tr p hp), H.xx⟩
theorem Cx.row_new (H : Cx w0 A X L Rs Ts w) (e : TypeId) (k n : Nat) (vs : List Value) (hn : vs.length = n * k) (hx : n ≤ maxLen) : Cx w0 A X L (⟨.slice (some ⟨w.heap.size, 0, none⟩) n n, e, k, n, vs⟩ :: Rs) Ts (w.alloc (.cells vs.toArray e)) := by
  have hg : w.grownBy (w.alloc (.cells vs.toArray e)) none := World.grownBy_alloc w _ none
  have H' := H.g hg
  have hrl : ∀ r ∈ Rs, r.v.ownBlock ≠ some w.heap.size := fun r hr e => by have := ((H.row r hr).lt _ e).2; omega
  refine ⟨H'.grown, H'.loc, H'.old, H'.dis, fun r hr => ?_, fun r hr => ?_, List.pairwise_cons.2 ⟨fun r hr => .inr (hrl r hr).symm, H.rr⟩, fun p hp => isV.kept (Fr.grow hg (fun b hb hl => ⟨hb.1, hb.2.1, fun r hr => ?_⟩) (fun b h => by cases h)) _ _ (H.tr p hp), H.xx⟩
  · rcases List.mem_cons.1 hr with rfl | hr
    · exact ⟨hn, .inr ⟨w.heap.size, n, vs.toArray, rfl, H.grown.size, heap_alloc_new _ _, Nat.le_refl _, hx, by simpa using hn, by simp [← hn]⟩⟩
    · exact H'.row r hr
  · rcases List.mem_cons.1 hr with rfl | hr
    · intro p hp e
      have := H.lt hp
      simp [Value.ownBlock] at e
      omega
    · exact H.rl r hr
  · rcases List.mem_cons.1 hr with rfl | hr
    · intro e
      simp [Value.ownBlock] at e
      omega
    · exact hb.2.2 r hr
theorem wl_bsR (hgd : o.guard = none) (T : TypeId) (n : Nat) (parts : Array (Nat × Operand)) (ho : o.op = .buildSlice T n parts) {e : TypeId} {vs : List Value} (hf : bsCells P T n (parts.map fun (i, x) => (i, a.eval x)).toList = some (e, vs.toArray)) (H : Cx w0 A X L Rs Ts w) (k : Nat) (hn : vs.length = n * k) (hx : n ≤ 64)
    (h : ∀ b w', Cx w0 A X L (⟨.slice (some ⟨b, 0, none⟩) n n, e, k, n, vs⟩ :: Rs) Ts w' → wpList P ops Q rest (a.put o.dst (.slice (some ⟨b, 0, none⟩) n n)) w') : wpList P ops Q (o :: rest) a w := by
  refine wl_val (w' := w.alloc (.cells vs.toArray e)) hgd ?_ (h w.heap.size _ (H.row_new e k n vs hn (by unfold maxLen; omega)))
  unfold execOp
  simp [ho, run_bs hf]
/- The first row grows; it is told as a tree. -/
theorem Cx.row_app {v v' : Value} {e : TypeId} {k n m : Nat} {xs us : List Value} {w' : World} (H : Cx w0 A X L (⟨v, e, k, n, xs⟩ :: Rs) Ts w) (h2 : w'.ownsRow w0.heap.size e k v' (n + m) (xs ++ us)) (hg : w.grownBy w' v.ownBlock) (hl : v'.ownBlock = v.ownBlock ∨ v'.ownBlock = some w.heap.size) : Cx w0 A X L (⟨v', e, k, n + m, xs ++ us⟩ :: Rs) Ts w' := by
  have hr0 := H.row _ (.head _)
  have hrr := List.pairwise_cons.1 H.rr
  refine ⟨grown_then H.grown hg (fun y e => .inr (hr0.lt y e).1), fun p hp => ?_, H.old, H.dis, fun r hr => ?_, fun r hr => ?_, ?_, fun p hp => isV.kept (Fr.grow hg (fun b hb hbl => ⟨hb.1, hb.2.1, fun r hr => ?_⟩) (fun b e hb => hb.2.2 _ (.head _) e)) _ _ (H.tr p hp), H.xx⟩
  · rw [hg.block p.b (H.lt hp) (fun e => H.rl _ (.head _) p hp e.symm)]
    exact H.loc p hp
  · rcases List.mem_cons.1 hr with rfl | hr
    · exact h2
    · refine (H.row r (.tail _ hr)).kept hg ?_
      rcases hrr.1 r hr with h | h
      · simp only at h
        cases hv : r.v.ownBlock with
        | none => exact .inl rfl
        | some y => exact .inr (by rw [h]; simp)
      · exact .inr (fun e => h e.symm)
  · rcases List.mem_cons.1 hr with rfl | hr
    · intro p hp e
      rcases hl with h | h
      · rw [h] at e; exact H.rl _ (.head _) p hp e
      · rw [h] at e
        have := H.lt hp
        simp at e
        omega
    · exact H.rl r (.tail _ hr)
  · refine List.pairwise_cons.2 ⟨fun r hr => ?_, hrr.2⟩
    rcases hl with h | h
    · simp only [h]
      exact hrr.1 r hr
    · right
      simp only [h]
      intro e
      have := ((H.row r (.tail _ hr)).lt _ e.symm).2
      omega
  · rcases List.mem_cons.1 hr with rfl | hr
    · intro e
      rcases hl with h | h
      · rw [h] at e; exact hb.2.2 _ (.head _) e
      · rw [h] at e
        simp at e
        omega
    · exact hb.2.2 r (.tail _ hr)
theorem Cx.row_tree {v : Value} {e : TypeId} {k n : Nat} {xs : List Value} (H : Cx w0 A X L (⟨v, e, k, n, xs⟩ :: Rs) Ts w) {ds : List Dt} (hv : isV w (okL w0 A L (⟨v, e, k, n, xs⟩ :: Rs)) ds xs) : Cx w0 A X L Rs (([.s n ds], [v]) :: Ts) w := by
  have hr0 := H.row _ (.head _)
  have hrr := List.pairwise_cons.1 H.rr
  have hok : ∀ b, okL w0 A L (⟨v, e, k, n, xs⟩ :: Rs) b → okL w0 A L Rs b := fun b hb => ⟨hb.1, hb.2.1, fun r hr => hb.2.2 r (.tail _ hr)⟩
  refine ⟨H.grown, H.loc, H.old, H.dis, fun r hr => H.row r (.tail _ hr), fun r hr => H.rl r (.tail _ hr), hrr.2, fun p hp => ?_, H.xx⟩
  rcases List.mem_cons.1 hp with rfl | hp
  · simp only [isV]
    refine ⟨v, [], rfl, own_isC hr0 (fun g hg => ⟨.inr (hr0.lt g hg).1, fun p hp e => H.rl _ (.head _) p hp (by rw [hg, e]), fun r hr e => ?_⟩) (isV.kept (Fr.here (fun b hb _ => hok b hb)) _ _ hv), rfl⟩
    rcases hrr.1 r hr with h | h
    · simp only at h; rw [hg] at h; cases h
    · exact h (by simp only; rw [hg, e])
  · exact isV.kept (Fr.here (fun b hb _ => hok b hb)) _ _ (H.tr p hp)
/- 'append(v, one)' where one is a row of its own, made just now. -/
theorem wl_app (hgd : o.guard = none) (s x : Operand) {T : TypeId} (ho : o.op = .call { callee := .builtin .append, args := #[s, x], argTypes := #[T, T] }) {e : TypeId} {k by_ : Nat} (hT : P.underlying T = some (.slice e)) (hi : (P.info? e).map (fun i => (i.zero.map (·.cells.size), i.size, i.bytes)) = some (some k, k, by_)) (hk : 0 < k)
    {v : Value} {n m c : Nat} {xs us : List Value} {ad : Addr} (hs : a.eval s = v) (hx : a.eval x = .slice (some ad) m c) (H : Cx w0 A X L (⟨v, e, k, n, xs⟩ :: Rs) Ts w) (hl : us.length = m * k) (hc : ∀ j u, us[j]? = some u → w.cell? (ad.add j) = some u) (h1 : us.all (·.oneCell') = true) (hn : n + m ≤ 1000000) (hb : by_ ≤ 100000)
    (h : ∀ v' w', (∃ d cp, v' = .slice d (n + m) cp) → w.grownBy w' v.ownBlock → Cx w0 A X L (⟨v', e, k, n + m, xs ++ us⟩ :: Rs) Ts w' → wpList P ops Q rest (a.put o.dst v') w') : wpList P ops Q (o :: rest) a w := by
  cases hie : P.info? e with
  | none => simp [hie] at hi
  | some ie =>
    simp [hie] at hi
    obtain ⟨⟨z, hz, hzk⟩, hsz, hby⟩ := hi
    have hr0 := H.row _ (.head _)
    obtain ⟨v', w', hr, h2, h3, h4, h5⟩ := run_append_own_at (P := P) w w0.heap.size T o.type e ie z k by_ hT hie hz hsz hby hzk hk v n xs hr0 ad m c us hl hc (fun u hu => List.all_eq_true.1 h1 u hu) (by unfold maxLen; omega) (Nat.le_trans (Nat.mul_le_mul hn hb) (by decide)) H.grown.size
    refine wl_val (v := v') (w' := w') hgd ?_ (h v' w' ?_ h3 (H.row_app h2 h3 h5))
    · unfold execOp
      simp only [ho, resolve, invoke, builtin, Sem.run_bind, Sem.run_pure, Result.andThen_ok, List.map_toArray, List.map_cons, List.map_nil, hs, hx, hr]
    · rcases h2.2 with ⟨rfl, h0⟩ | ⟨g, cap, cur, rfl, _⟩
      · exact ⟨none, 0, by rw [h0]⟩
      · exact ⟨_, cap, rfl⟩
end
theorem GetS.all : ∀ (cs : List Value), GetS 0 cs cs
  | [] => .nil _
  | u :: cs => .cons u (GetS.all cs)
theorem PutS.all : ∀ (us cs : List Value), us.length = cs.length → PutS 0 us cs us
  | [], [], _ => .nil _
  | u :: us, v :: cs, h => .cons u v (PutS.all us cs (by simpa using h))
/- A struct that is told by its own cell. -/
theorem ret_cell {P : Program} {fn : Func} {R : Ending → World → Prop} {a : Act} {w w0 : World} {A : Nat → Prop} {X : Option Nat} {L : List Lc} {Rs : List Rw} {Ts : List (List Dt × List Value)} {p : Tmp} {ty : TypeId} (h : fn.results = #[.cell p ty]) {b : Nat} (hp : a.tmps.getD p undef = .pointer (some ⟨b, 0, none⟩)) (hd : a.defers = []) (H : Cx w0 A X L Rs Ts w) {cs : List Value} {t : TypeId} (hm : ⟨b, cs, t⟩ ∈ L) {k : Nat} (hT : TyS P ty k) (hk : cs.length = k) (hR : R (.returned (.agg cs.toArray)) w) : bodyPost P fn R .ret a w := by
  refine bodyPost_ret (v := .agg cs.toArray) ?_ hd hR
  have hl := run_load_s (P := P) (w := w) hT ⟨b, 0, none⟩ cs hk (cells_at H hm (GetS.all cs))
  have hp' : a.tmps[p]?.getD undef = .pointer (some ⟨b, 0, none⟩) := by simpa using hp
  simp [results, h, hp', asAddr, hl]
/- A region that draws its order, taken in the text's order: what only reads the call's own variables may be taken whenever. -/
section
variable {P : Program} {ops : Array Oper} {Q : Exit → Act → World → Prop} {md : Region.Mode} {S : World → Prop} {last : Nat}
def wpAnyL (P : Program) (md : Region.Mode) (ops : Array Oper) (Q : Exit → Act → World → Prop) (S : World → Prop) (last : Nat) : Nat → Array Bool → Act → World → Prop
  | 0, listed, a, w => Region.ready md ops listed = [] ∧ Q .normal a w
  | fuel + 1, listed, a, w =>
    (Region.ready md ops listed = [] → Q .normal a w) ∧
    ∀ i ∈ Region.ready md ops listed, wpOp P ops Q i (fun a' w' => (i = last ∨ S w') ∧ wpAnyL P md ops Q S last fuel (listed.setIfInBounds i true) a' w') a w
theorem wpAny_of_last : ∀ (fuel : Nat) (listed : Array Bool) (a : Act) (w : World), wpAnyL P md ops Q S last fuel listed a w → wpAny P md ops Q fuel listed a w
  | 0, _, _, _, h => h
  | fuel + 1, _, _, _, h => ⟨h.1, fun i hi => wpOp_mono (fun a' w' h' => wpAny_of_last fuel _ a' w' h'.2) (h.2 i hi)⟩
def waits (md : Region.Mode) (ops : Array Oper) (last i : Nat) : Bool := match ops[last]? with
  | some o => o.after.any fun e => Region.binds md e && (e.on == i)
  | none => true
theorem wpAnyL_first {i : Nat} {oi : Oper} {v : Value} (hi : ops[i]? = some oi) (hsel : ∀ (j : Nat) (o : Oper) cs b, ops[j]? = some o → o.op ≠ .select cs b)
    (hQ : ∀ c a w, Q (.panic c) (a.put oi.dst v) w → Q (.panic c) a w) (hwt : waits md ops last i = true) :
    ∀ (fuel : Nat) (listed : Array Bool) (a : Act) (w : World),
      (∀ j oj, ops[j]? = some oj → j ≠ i → listed.getD j true = false → (∀ e ∈ oj.after, Region.binds md e = true → e.on ≠ i) → oi.apart ops oj = true) →
      i ∈ Region.ready md ops listed → YieldsIf P ops S oi v a → S w →
      wpAnyL P md ops Q S last fuel (listed.setIfInBounds i true) (a.put oi.dst v) w → wpAnyL P md ops Q S last (fuel + 1) listed a w := by
  intro fuel
  induction fuel with
  | zero =>
    intro listed a w _ hr hy hS H
    refine ⟨fun h => (by rw [h] at hr; cases hr), fun j hj => ?_⟩
    by_cases hji : j = i
    · subst hji; exact hy.wpOp hi hS ⟨.inr hS, H⟩
    · have := ready_mono hj hji
      rw [H.1] at this
      cases this
  | succ fuel ih =>
    intro listed a w hfree hr hy hS H
    refine ⟨fun h => (by rw [h] at hr; cases hr), fun j hj => ?_⟩
    by_cases hji : j = i
    · subst hji; exact hy.wpOp hi hS ⟨.inr hS, H⟩
    · have h1 := H.2 j (ready_mono hj hji)
      obtain ⟨hjun, oj, hoj, hall⟩ := mem_ready.1 hj
      have hnot : ∀ e ∈ oj.after, Region.binds md e = true → e.on ≠ i := fun e he hb heq => by
        have h1 := hall e he hb
        have h0 := (mem_ready.1 hr).1
        rw [heq] at h1
        rcases Nat.lt_or_ge i listed.size with h' | h'
        · simp [h'] at h0 h1; rw [h0] at h1; cases h1
        · simp [Array.getElem?_eq_none h'] at h1
      have hjl : j ≠ last := fun e => by
        subst e
        unfold waits at hwt
        rw [hoj] at hwt
        obtain ⟨e, he, hb⟩ := Array.any_eq_true'.1 hwt
        simp only [Bool.and_eq_true, beq_iff_eq] at hb
        exact hnot e he hb.1 hb.2
      have h2 := wpOp_putIf hoj (hfree j oj hoj hji hjun hnot) (fun cs b => hsel i oi cs b hi) (fun cs b => hsel j oj cs b hoj) hQ hy h1
      have hfree' : ∀ k ok, ops[k]? = some ok → k ≠ i → (listed.setIfInBounds j true).getD k true = false →
          (∀ e ∈ ok.after, Region.binds md e = true → e.on ≠ i) → oi.apart ops ok = true := fun k ok hk hki hun hno => by
        refine hfree k ok hk hki ?_ hno
        by_cases hjk : j = k
        · subst hjk; exact hjun
        · rw [getD_set_ne true hjk] at hun; exact hun
      refine wpOp_mono (fun a' w' h3 => ?_) h2
      have hS' : S w' := h3.2.1.resolve_left hjl
      refine ⟨.inr hS', ih (listed.setIfInBounds j true) a' w' hfree' (ready_mono hr (Ne.symm hji)) h3.1 hS' ?_⟩
      rw [Array.setIfInBounds_comm _ _ hji]
      exact h3.2.2
theorem wpAnyL_done {listed : Array Bool} {a : Act} {w : World} (hr : Region.ready md ops listed = []) (h : Q .normal a w) :
    ∀ fuel, wpAnyL P md ops Q S last fuel listed a w
  | 0 => ⟨hr, h⟩
  | _ + 1 => ⟨fun _ => h, by rw [hr]; simp⟩
/- The plan: an order in which each operation is taken first (it only reads), or is the only one that may come up; checked by reckoning. -/
def plan (md : Region.Mode) (ops : Array Oper) (last : Nat) (rd : List Nat) : List Nat → Array Bool → Bool
  | [], listed => (Region.ready md ops listed).isEmpty
  | i :: l, listed => (if rd.contains i then Region.free md ops listed i && (Region.ready md ops listed).contains i && waits md ops last i else Region.ready md ops listed == [i] && (i != last || l.isEmpty)) && plan md ops last rd l (listed.setIfInBounds i true)
/- In that order: what reads tells its value in every world that is good; behind what acts the world is good again, but for the last. -/
def inO (P : Program) (ops : Array Oper) (Q : Exit → Act → World → Prop) (S : World → Prop) (last : Nat) (rd : List Nat) : List Nat → Act → World → Prop
  | [], a, w => Q .normal a w
  | i :: l, a, w => match ops[i]? with
    | none => False
    | some o => if rd.contains i then ∃ v, YieldsIf P ops S o v a ∧ inO P ops Q S last rd l (a.put o.dst v) w
      else ∀ K' : Act → World → Prop, (∀ a w, (i = last ∨ S w) → inO P ops Q S last rd l a w → K' a w) → if Region.wanted o (yielded ops a.tmps) = true then Oper.wp P o a w K' Q else K' (a.put o.dst undef) w
theorem inO_any (hs : Region.noSelect ops = true) {rd : List Nat} (hQ : ∀ c a d v w, Q (.panic c) (Act.put a d v) w → Q (.panic c) a w) : ∀ (l : List Nat) (listed : Array Bool) (a : Act) (w : World), plan md ops last rd l listed = true →
    (S w ∨ l = []) → inO P ops Q S last rd l a w → wpAnyL P md ops Q S last l.length listed a w
  | [], listed, a, w, hp, _, h => by
    simp only [inO] at h
    simp only [plan, List.isEmpty_iff] at hp
    exact wpAnyL_done hp h 0
  | i :: l, listed, a, w, hp, hS, h => by
    simp only [inO] at h
    simp only [plan, Bool.and_eq_true] at hp
    obtain ⟨hp1, hp2⟩ := hp
    have hSw : S w := hS.resolve_right (by simp)
    cases ho : ops[i]? with
    | none => rw [ho] at h; exact h.elim
    | some o =>
      rw [ho] at h
      simp only at h
      by_cases hc : rd.contains i = true
      · simp only [hc, if_true, Bool.and_eq_true] at h hp1
        obtain ⟨v, hy, h⟩ := h
        exact wpAnyL_first ho (Region.noSelect_spec hs) (fun c a w hq => hQ c a _ _ w hq) hp1.2 l.length listed a w (Region.free_spec ho hp1.1.1) (by simpa using hp1.1.2) hy hSw (inO_any hs hQ l _ _ w hp2 (.inl hSw) h)
      · simp only [hc, Bool.false_eq_true, if_false, Bool.and_eq_true, beq_iff_eq, Bool.or_eq_true, bne_iff_ne, List.isEmpty_iff] at h hp1
        obtain ⟨hp1, hp3⟩ := hp1
        refine ⟨fun h0 => (by rw [hp1] at h0; cases h0), fun j hj => ?_⟩
        rw [hp1] at hj
        simp at hj
        subst hj
        refine wpOp_step ho (fun K' hK => h K' (fun a' w' hS' hW => hK a' w' ⟨hS', ?_⟩))
        refine inO_any hs hQ l _ a' w' hp2 ?_ hW
        rcases hS' with e | e
        · exact .inr (hp3.resolve_left (fun h => h e))
        · exact .inl e
theorem wp_region_inO {id : Nat} {a : Act} {w : World} (S : World → Prop) (last : Nat) (rd ord : List Nat) (hm : P.follows .mixedOrders = true) (hs : Region.noSelect ops = true) (hl : ord.length = ops.size) (hp : plan .any ops last rd ord (Array.replicate ops.size false) = true)
    (hQ : ∀ c a d v w, Q (.panic c) (Act.put a d v) w → Q (.panic c) a w) (hS : S w.drew)
    (h : inO P ops Q S last rd ord a w.drew) : (Code.region id ops true).wp P Q a w := by
  have := inO_any (md := .any) hs hQ ord _ a w.drew hp (.inl hS) h
  rw [hl] at this
  exact wp_region_any hm (wpAny_of_last (S := S) (last := last) _ _ _ _ this)
end
end Go.Proofs.Ythmldhppmpbadaa.Tr
namespace Go.Proofs.Ythmldhppmpbadaa.Tr
open Go.RowKit Go.Proofs.Ythmldhppmpbadaa.Tx
set_option linter.unusedVariables false
set_option linter.unusedSimpArgs false

theorem d1_g (w : World) : w.grownBy w.drew none := ⟨rfl, rfl, rfl, Nat.le_refl _, fun _ _ _ => rfl⟩
theorem gr_then {a b c : World} {X : Option Nat} (h : a.grownBy b X) (k : b.grownBy c X) : a.grownBy c X := grown_then h k (fun _ e => .inl e)
theorem gr_then0 {a b c : World} {X : Option Nat} (h : a.grownBy b X) (k : b.grownBy c none) : a.grownBy c X := grown_then h k (fun _ e => by cases e)
theorem gr_ref (w : World) (X : Option Nat) : w.grownBy w X := grown_refl w X
theorem gr_of {w0 w : World} {A : Nat → Prop} {X : Option Nat} {L : List Lc} {Rs : List Rw} {Ts : List (List Dt × List Value)} (H : Cx w0 A X L Rs Ts w) (Y : Option Nat) : w.grownBy w Y := grown_refl w Y
section
variable {P : Program} {ops : Array Oper} {Q : Exit → Act → World → Prop} {S : World → Prop} {last : Nat} {rd l : List Nat} {i : Nat} {a : Act} {w : World} {o : Oper} {v : Value}
theorem inO_read (ho : ops[i]? = some o) (hc : rd.contains i = true) (hy : YieldsIf P ops S o v a) (h : inO P ops Q S last rd l (a.put o.dst v) w) : inO P ops Q S last rd (i :: l) a w := by
  simp only [inO, ho, hc, if_true]
  exact ⟨v, hy, h⟩
theorem inO_act (ho : ops[i]? = some o) (hc : rd.contains i = false) (hw : Region.wanted o (yielded ops a.tmps) = true) (h : ∀ K' : Act → World → Prop, (∀ a w, (i = last ∨ S w) → inO P ops Q S last rd l a w → K' a w) → Oper.wp P o a w K' Q) : inO P ops Q S last rd (i :: l) a w := by
  simp only [inO, ho, hc, Bool.false_eq_true, if_false, hw, if_true]
  exact h
theorem inO_skip (ho : ops[i]? = some o) (hc : rd.contains i = false) (hw : Region.wanted o (yielded ops a.tmps) = false) (hS : i = last ∨ S w) (h : inO P ops Q S last rd l (a.put o.dst undef) w) : inO P ops Q S last rd (i :: l) a w := by
  simp only [inO, ho, hc, Bool.false_eq_true, if_false, hw]
  exact fun K' hK => hK _ _ hS h
theorem inO_end (h : Q .normal a w) : inO P ops Q S last rd [] a w := h
theorem gr_cells {w0 w W : World} {A : Nat → Prop} {X Y : Option Nat} {L : List Lc} {Rs : List Rw} {Ts : List (List Dt × List Value)} (H : Cx w0 A X L Rs Ts w) (hS : w.grownBy W Y) {b : Nat} (hn : NX Y b) {cs : List Value} {t : TypeId} (hm : ⟨b, cs, t⟩ ∈ L) {off : Nat} {us : List Value} (hg : GetS off us cs) : ∀ j u, us[j]? = some u → W.cell? ((⟨b, off, none⟩ : Addr).add j) = some u := fun j u hu => by
  have := cells_at H hm hg j u hu
  refine hS.cell this ?_
  have e : ((⟨b, off, none⟩ : Addr).add j).block = b := by unfold Addr.add; split <;> rfl
  rw [e]
  exact hn.ne
theorem yl_s {w0 w : World} {A : Nat → Prop} {X Y : Option Nat} {L : List Lc} {Rs : List Rw} {Ts : List (List Dt × List Value)} {T k : Nat} (hT : TyS P T k) {x : Operand} (ho : o.op = .load T x) {b off : Nat} (hx : a.eval x = .pointer (some ⟨b, off, none⟩)) (hw : Region.wanted o (yielded ops a.tmps) = true) (H : Cx w0 A X L Rs Ts w) (hn : NX Y b) {cs : List Value} {t : TypeId} (hm : ⟨b, cs, t⟩ ∈ L) {us : List Value} (hg : GetS off us cs) (hk : us.length = k) : YieldsIf P ops (fun W => w.grownBy W Y) o (.agg us.toArray) a := by
  refine .inl ⟨hw, fun W hS => ?_⟩
  unfold execOp
  simp [ho, hx, Instr.loadAt, Instr.sureAddr, run_load_s hT _ us hk (gr_cells H hS hn hm hg)]
theorem yl_c {w0 w : World} {A : Nat → Prop} {X Y : Option Nat} {L : List Lc} {Rs : List Rw} {Ts : List (List Dt × List Value)} {T : Nat} (hT : TyC P T) {x : Operand} (ho : o.op = .load T x) {b off : Nat} (hx : a.eval x = .pointer (some ⟨b, off, none⟩)) (hw : Region.wanted o (yielded ops a.tmps) = true) (H : Cx w0 A X L Rs Ts w) (hn : NX Y b) {cs : List Value} {t : TypeId} (hm : ⟨b, cs, t⟩ ∈ L) {u : Value} (hg : GetS off [u] cs) : YieldsIf P ops (fun W => w.grownBy W Y) o u a := by
  refine .inl ⟨hw, fun W hS => ?_⟩
  unfold execOp
  have := gr_cells H hS hn hm hg 0 u rfl
  rw [Addr.add_zero'] at this
  simp [ho, hx, Instr.loadAt, Instr.sureAddr, run_load_c hT _ u this]
theorem yl_if (hw : Region.wanted o (yielded ops a.tmps) = true) (h : ∀ W, S W → (execOp a.eval o).run P W = .ok (.value v) W) : YieldsIf P ops S o v a := .inl ⟨hw, h⟩
theorem nx0 (b : Nat) : NX none b := ⟨by simp⟩
theorem yl_run (hw : Region.wanted o (yielded ops a.tmps) = true) (h : ∀ W, (execOp a.eval o).run P W = .ok (.value v) W) : YieldsIf P ops S o v a := .inl ⟨hw, fun W _ => h W⟩
end
/- Actions at Oper.wp: what a list of operations has laws for, once more. -/
section
variable {P : Program} {o : Oper} {a : Act} {w w0 : World} {K : Act → World → Prop} {Q : Exit → Act → World → Prop}
  {A : Nat → Prop} {X : Option Nat} {L L' : List Lc} {Rs : List Rw} {Ts : List (List Dt × List Value)}
theorem op_val {v : Value} {w' : World} (hr : (execOp a.eval o).run P w = .ok (.value v) w') (h : K (a.put o.dst v) w') : o.wp P a w K Q := by unfold Oper.wp; rw [hr]; exact h
theorem op_skip {w' : World} (hr : (execOp a.eval o).run P w = .ok .skip w') (h : K (a.put o.dst undef) w') : o.wp P a w K Q := by unfold Oper.wp; rw [hr]; exact h
theorem op_enter {f : FuncId} {args : Array Value} (hr : (execOp a.eval o).run P w = .ok (.enter f args) w) (h : Calls P f args w fun
      | .returned v, w'' => K (a.put o.dst v) w''
      | .panicked chain, w'' => Q (.panic chain) a w''
      | .outgrown, _ => LetsOut Q) : o.wp P a w K Q := by unfold Oper.wp; rw [hr]; exact h
theorem op_alloc (T : TypeId) (ho : o.op = .alloc T) {zs : List Value} (hz : (P.info? T).bind (fun i => i.zero.map (·.cells)) = some zs.toArray) (H : Cx w0 A X L Rs Ts w)
    (h : ∀ b w', NX X b → w.grownBy w' none → Cx w0 A X (⟨b, zs, T⟩ :: L) Rs Ts w' → K (a.put o.dst (.pointer (some ⟨b, 0, none⟩))) w') : o.wp P a w K Q := by
  cases hi : P.info? T with
  | none => simp [hi] at hz
  | some i =>
    cases hzz : i.zero with
    | none => simp [hi, hzz] at hz
    | some z =>
      simp [hi, hzz] at hz
      refine op_val (w' := w.alloc (.cells zs.toArray T)) ?_ (h w.heap.size _ H.nx (World.grownBy_alloc w _ none) (H.loc_new zs T))
      unfold execOp
      simp [ho, Instr.alloc, zeroValue, typeInfo, hi, hzz, newVar, newRow, hz]
theorem op_store (T : TypeId) (x y : Operand) (ho : o.op = .store T x y) {b off : Nat} (hx : a.eval x = .pointer (some ⟨b, off, none⟩)) {us : List Value} (hv : (a.eval y).cells = us.toArray) (hs : (P.info? T).map (·.size) = some us.length) (h1 : us.all (·.oneCell') = true) (H : Cx w0 A X L Rs Ts w) {cs cs' : List Value} {t : TypeId} (hm : ⟨b, cs, t⟩ ∈ L) (hp : PutS off us cs cs') (hu : Upd b cs' L L')
    (h : ∀ w', Cx w0 A X L' Rs Ts w' → K (a.put o.dst undef) w') : o.wp P a w K Q := by
  refine op_skip (w' := w.setRow b cs'.toArray) ?_ (h _ (H.loc_set hm hu))
  unfold execOp
  simp [ho, hx, Instr.storeAt, Instr.sureAddr, run_store_at H hm hv hs hp h1]
theorem op_bsT (T : TypeId) (n : Nat) (parts : Array (Nat × Operand)) (ho : o.op = .buildSlice T n parts) {e : TypeId} {vs : List Value} (hf : bsCells P T n (parts.map fun (i, x) => (i, a.eval x)).toList = some (e, vs.toArray)) (H : Cx w0 A X L Rs Ts w) {ds : List Dt} (hv : isV w (okL w0 A L Rs) ds vs)
    (h : ∀ b w', w.grownBy w' none → Cx w0 A X L Rs (([.s n ds], [.slice (some ⟨b, 0, none⟩) n n]) :: Ts) w' → K (a.put o.dst (.slice (some ⟨b, 0, none⟩) n n)) w') : o.wp P a w K Q := by
  refine op_val (w' := w.alloc (.cells vs.toArray e)) ?_ (h w.heap.size _ (World.grownBy_alloc w _ none) (H.tree_new e n hv))
  unfold execOp
  simp [ho, run_bs hf]
theorem wl_cell {ops : Array Oper} {rest : List Oper} (hgd : o.guard = none) (T : TypeId) (x : Operand) (ho : o.op = .load T x) (hT : TyC P T) {ad : Addr} (hx : a.eval x = .pointer (some ad)) {u : Value} (hc : w.cell? ad = some u)
    (h : wpList P ops Q rest (a.put o.dst u) w) : wpList P ops Q (o :: rest) a w := by
  refine wl_val hgd ?_ h
  unfold execOp
  simp [ho, hx, Instr.loadAt, Instr.sureAddr, run_load_c hT _ u hc]
theorem yl_cell {ops : Array Oper} {S : World → Prop} {T : Nat} (hT : TyC P T) {x : Operand} (ho : o.op = .load T x) {ad : Addr} (hx : a.eval x = .pointer (some ad)) (hw : Region.wanted o (yielded ops a.tmps) = true) {u : Value} (hc : ∀ W, S W → W.cell? ad = some u) : YieldsIf P ops S o u a := by
  refine .inl ⟨hw, fun W hS => ?_⟩
  unfold execOp
  simp [ho, hx, Instr.loadAt, Instr.sureAddr, run_load_c hT _ u (hc W hS)]
theorem wl_bt {ops : Array Oper} {rest : List Oper} (hgd : o.guard = none) (T : TypeId) (n : Nat) (parts : Array (Nat × Operand)) (ho : o.op = .buildSlice T n parts) (e : TypeId) (H : Cx w0 A X L Rs Ts w) {ds : List Dt} {vs : List Value} (hv : isV w (okL w0 A L Rs) ds vs) (hf : bsCells P T n (parts.map fun (i, x) => (i, a.eval x)).toList = some (e, vs.toArray))
    (h : ∀ b w', Cx w0 A X L Rs (([.s n ds], [.slice (some ⟨b, 0, none⟩) n n]) :: Ts) w' → wpList P ops Q rest (a.put o.dst (.slice (some ⟨b, 0, none⟩) n n)) w') : wpList P ops Q (o :: rest) a w := wl_bsT hgd T n parts ho hf H hv h
theorem op_bt (T : TypeId) (n : Nat) (parts : Array (Nat × Operand)) (ho : o.op = .buildSlice T n parts) (e : TypeId) (H : Cx w0 A X L Rs Ts w) {ds : List Dt} {vs : List Value} (hv : isV w (okL w0 A L Rs) ds vs) (hf : bsCells P T n (parts.map fun (i, x) => (i, a.eval x)).toList = some (e, vs.toArray))
    (h : ∀ b w', w.grownBy w' none → Cx w0 A X L Rs (([.s n ds], [.slice (some ⟨b, 0, none⟩) n n]) :: Ts) w' → K (a.put o.dst (.slice (some ⟨b, 0, none⟩) n n)) w') : o.wp P a w K Q := op_bsT T n parts ho hf H hv h
theorem isV_one {w : World} {ok : Nat → Prop} {d : Dt} {v : Value} (h : isV w ok [d] [v]) : isC w ok d v := by
  simp only [isV] at h
  obtain ⟨v', vs', e, h1, _⟩ := h
  cases e
  exact h1
theorem isV_of {w : World} {ok : Nat → Prop} {d : Dt} {v : Value} (h : isC w ok d v) : isV w ok [d] [v] := by
  simp only [isV]
  exact ⟨v, [], rfl, h, rfl⟩
theorem isV_none {w : World} {ok : Nat → Prop} : isV w ok [] [] := by simp only [isV]
theorem Cx.tell (H : Cx w0 A X L Rs Ts w) {ds : List Dt} {vs : List Value} (h : (ds, vs) ∈ Ts) : isV w (fun b => A b ∨ w0.heap.size ≤ b) ds vs := isV.kept (Fr.here (fun b hb _ => hb.1)) _ _ (H.tr _ h)
theorem Cx.has (H : Cx w0 A X L Rs Ts w) {ds : List Dt} {vs : List Value} (h : (ds, vs) ∈ Ts) : isV w (okL w0 A L Rs) ds vs := H.tr _ h
theorem Cx.begin (w : World) (A : Nat → Prop) {ds : List Dt} {vs : List Value} (h : isV w A ds vs) : Cx w A none [] [] [(ds, vs)] w := (Cx.start w A).add (isV.kept (Fr.here (fun b hb _ => ⟨.inl hb, by simp, by simp⟩)) _ _ h)
theorem Cx.into (H : Cx w0 A X L Rs Ts w) (hL : ∀ p ∈ L, ¬ A p.b) (hR : Rs = []) {ds : List Dt} {vs : List Value} (h : isV w A ds vs) : Cx w0 A X L Rs ((ds, vs) :: Ts) w := H.add (isV.kept (Fr.here (fun b hb _ => ⟨.inl hb, fun p hp e => hL p hp (by rw [e]; exact hb), by simp [hR]⟩)) _ _ h)
/- What a callee told, in new memory or in what it was handed. -/
theorem Cx.told {w' : World} (H : Cx w0 A X L Rs Ts w') {B : Nat → Prop} (hB : ∀ b, B b → okL w0 A L Rs b) {ds : List Dt} {vs : List Value} (h : isV w' B ds vs) : Cx w0 A X L Rs ((ds, vs) :: Ts) w' := H.add (isV.kept (Fr.here (fun b hb _ => hB b hb)) _ _ h)
/- New memory is nobody's. -/
theorem Cx.newX {x : Nat} {cs cs' : List Value} {t : TypeId} {w' : World} {G : Prop} {ds : List Dt} {vs : List Value} (H : Cx w0 A (some x) L Rs Ts w) (hg : w.grownBy w' (some x)) (hm : ⟨x, cs, t⟩ ∈ L) (hh : w'.heap[x]? = some (.cells cs'.toArray t (0, 0))) (hu : Upd x cs' L L') (hv : isV w' (fun b => w.heap.size ≤ b) ds vs) (h : Cx w0 A (some x) L' Rs ((ds, vs) :: Ts) w' → G) : G :=
  h ((H.callX hg hm hh hu).add (isV.kept (Fr.here (fun b hb _ => ⟨.inr (Nat.le_trans H.grown.size hb), mem_blocks (P := fun c => c ≠ b) hu.map (fun p hp e => by have := H.lt hp; omega), fun r hr e => by have := ((H.row r hr).lt _ e).2; omega⟩)) _ _ hv))
theorem Cx.new0 {w' : World} {G : Prop} {ds : List Dt} {vs : List Value} (H : Cx w0 A X L Rs Ts w) (hg : w.grownBy w' none) (hv : isV w' (fun b => w.heap.size ≤ b) ds vs) (h : Cx w0 A X L Rs ((ds, vs) :: Ts) w' → G) : G :=
  h ((H.g hg).add (isV.kept (Fr.here (fun b hb _ => H.okNew hb)) _ _ hv))
theorem Cx.only (H : Cx w0 A X L Rs Ts w) {Ts' : List (List Dt × List Value)} (h : ∀ p ∈ Ts', p ∈ Ts) : Cx w0 A X L Rs Ts' w := ⟨H.grown, H.loc, H.old, H.dis, H.row, H.rl, H.rr, fun p hp => H.tr p (h p hp), H.xx⟩
theorem Cx.only1 (H : Cx w0 A X L Rs Ts w) {ds : List Dt} {vs : List Value} (h : (ds, vs) ∈ Ts) : Cx w0 A X L Rs [(ds, vs)] w := H.only (fun p hp => by rw [List.mem_singleton] at hp; subst hp; exact h)
/- What a callee made out of what it was handed. -/
theorem Cx.fromX {x : Nat} {cs cs' : List Value} {t : TypeId} {w' : World} {G : Prop} {ds : List Dt} {vs : List Value} (H : Cx w0 A (some x) L Rs Ts w) (hg : w.grownBy w' (some x)) (hm : ⟨x, cs, t⟩ ∈ L) (hh : w'.heap[x]? = some (.cells cs'.toArray t (0, 0))) (hu : Upd x cs' L L') (hv : isV w' (fun b => okL w0 A L Rs b ∨ w.heap.size ≤ b) ds vs) (h : Cx w0 A (some x) L' Rs ((ds, vs) :: Ts) w' → G) : G :=
  h ((H.callX hg hm hh hu).add (isV.kept (Fr.here (fun b hb _ => by
    rcases hb with hb | hb
    · exact ⟨hb.1, mem_blocks (P := fun c => c ≠ b) hu.map hb.2.1, hb.2.2⟩
    · exact ⟨.inr (Nat.le_trans H.grown.size hb), mem_blocks (P := fun c => c ≠ b) hu.map (fun p hp e => by have := H.lt hp; omega), fun r hr e => by have := ((H.row r hr).lt _ e).2; omega⟩)) _ _ hv))
theorem Cx.from0 {w' : World} {G : Prop} {ds : List Dt} {vs : List Value} (H : Cx w0 A X L Rs Ts w) (hg : w.grownBy w' none) (hv : isV w' (fun b => okL w0 A L Rs b ∨ w.heap.size ≤ b) ds vs) (h : Cx w0 A X L Rs ((ds, vs) :: Ts) w' → G) : G :=
  h ((H.g hg).add (isV.kept (Fr.here (fun b hb _ => hb.elim id H.okNew)) _ _ hv))
/- A variable that nobody asks for any more. -/
theorem Cx.drop {q : Lc} (H : Cx w0 A X (q :: L) Rs Ts w) : Cx w0 A X L Rs Ts w :=
  ⟨H.grown, fun p hp => H.loc p (.tail _ hp), fun p hp => H.old p (.tail _ hp), (List.pairwise_cons.1 H.dis).2, H.row, fun r hr p hp => H.rl r hr p (.tail _ hp), H.rr, fun p hp => isV.kept (Fr.here (fun b hb _ => ⟨hb.1, fun q' hq => hb.2.1 q' (.tail _ hq), hb.2.2⟩)) _ _ (H.tr p hp), H.xx⟩
/- A slice literal whose block is the call's own. -/
theorem wl_bl {ops : Array Oper} {rest : List Oper} (hgd : o.guard = none) (T : TypeId) (n : Nat) (parts : Array (Nat × Operand)) (ho : o.op = .buildSlice T n parts) (e : TypeId) (vs : List Value) (H : Cx w0 A X L Rs Ts w) (hf : bsCells P T n (parts.map fun (i, x) => (i, a.eval x)).toList = some (e, vs.toArray))
    (h : ∀ b w', NX X b → Cx w0 A X (⟨b, vs, e⟩ :: L) Rs Ts w' → wpList P ops Q rest (a.put o.dst (.slice (some ⟨b, 0, none⟩) n n)) w') : wpList P ops Q (o :: rest) a w := by
  refine wl_val (w' := w.alloc (.cells vs.toArray e)) hgd ?_ (h w.heap.size _ H.nx (H.loc_new vs e))
  unfold execOp
  simp [ho, run_bs hf]
theorem wl_br {ops : Array Oper} {rest : List Oper} (hgd : o.guard = none) (T : TypeId) (n : Nat) (parts : Array (Nat × Operand)) (ho : o.op = .buildSlice T n parts) (e : TypeId) (k : Nat) (vs : List Value) (H : Cx w0 A X L Rs Ts w) (hn : vs.length = n * k) (hx : n ≤ 64) (hf : bsCells P T n (parts.map fun (i, x) => (i, a.eval x)).toList = some (e, vs.toArray))
    (h : ∀ b w', Cx w0 A X L (⟨.slice (some ⟨b, 0, none⟩) n n, e, k, n, vs⟩ :: Rs) Ts w' → wpList P ops Q rest (a.put o.dst (.slice (some ⟨b, 0, none⟩) n n)) w') : wpList P ops Q (o :: rest) a w := wl_bsR hgd T n parts ho hf H k hn hx h
/- 'append' of what lies in such a block. -/
theorem wl_ap {ops : Array Oper} {rest : List Oper} (hgd : o.guard = none) (s x : Operand) {T : TypeId} (ho : o.op = .call { callee := .builtin .append, args := #[s, x], argTypes := #[T, T] }) {e : TypeId} {k by_ : Nat} (hT : P.underlying T = some (.slice e)) (hi : (P.info? e).map (fun i => (i.zero.map (·.cells.size), i.size, i.bytes)) = some (some k, k, by_)) (hk : 0 < k) (hb : by_ ≤ 100000)
    {v : Value} {n b : Nat} {xs us : List Value} {t : TypeId} (hs : a.eval s = v) (hx : a.eval x = .slice (some ⟨b, 0, none⟩) 1 1) (H : Cx w0 A X (⟨b, us, t⟩ :: L) (⟨v, e, k, n, xs⟩ :: Rs) Ts w) (hl : us.length = 1 * k) (h1 : us.all (·.oneCell') = true) (hn : n ≤ 900000)
    (h : ∀ d cp w', Cx w0 A X L (⟨.slice d (n + 1) cp, e, k, n + 1, xs ++ us⟩ :: Rs) Ts w' → wpList P ops Q rest (a.put o.dst (.slice d (n + 1) cp)) w') : wpList P ops Q (o :: rest) a w := by
  refine wl_app hgd s x ho hT hi hk hs hx H hl (cells_at H (.head _) (GetS.all us)) h1 (by omega) hb (fun v' w' hv _ hc => ?_)
  obtain ⟨d, cp, rfl⟩ := hv
  exact h d cp w' hc.drop
theorem wl_run {ops : Array Oper} {rest : List Oper} (hgd : o.guard = none) (T : TypeId) (x : Operand) (ho : o.op = .load T x) {ad : Addr} (hx : a.eval x = .pointer (some ad)) {v : Value} (hr : (loadVar T ad).run P w = .ok v w)
    (h : wpList P ops Q rest (a.put o.dst v) w) : wpList P ops Q (o :: rest) a w := by
  refine wl_val hgd ?_ h
  unfold execOp
  simp [ho, hx, Instr.loadAt, Instr.sureAddr, hr]
theorem yl_load {ops : Array Oper} {S : World → Prop} {T : Nat} {x : Operand} (ho : o.op = .load T x) {ad : Addr} (hx : a.eval x = .pointer (some ad)) (hw : Region.wanted o (yielded ops a.tmps) = true) {v : Value} (hr : ∀ W, S W → (loadVar T ad).run P W = .ok v W) : YieldsIf P ops S o v a := by
  refine .inl ⟨hw, fun W hS => ?_⟩
  unfold execOp
  simp [ho, hx, Instr.loadAt, Instr.sureAddr, hr W hS]
end
end Go.Proofs.Ythmldhppmpbadaa.Tr
namespace Go.Proofs.Ythmldhppmpbadaa.Tr
open Go.RowKit Go.Proofs.Ythmldhppmpbadaa.Tx
set_option linter.unusedVariables false
set_option linter.unusedSimpArgs false

inductive Pl where
  | nil
  | rd (i : Nat) (k : Pl)
  | act (i : Nat) (k : Pl)
  | fork (i : Nat) (k : Pl) (j : Nat) (l : Pl)
def Pl.isNil : Pl → Bool
  | .nil => true
  | _ => false
def Pl.len : Pl → Nat
  | .nil => 0
  | .rd _ k => k.len + 1
  | .act _ k => k.len + 1
  | .fork _ k _ _ => k.len + 1
def planT (md : Region.Mode) (ops : Array Oper) (last : Nat) : Pl → Array Bool → Bool
  | .nil, listed => (Region.ready md ops listed).isEmpty
  | .rd i k, listed => Region.free md ops listed i && (Region.ready md ops listed).contains i && waits md ops last i && planT md ops last k (listed.setIfInBounds i true)
  | .act i k, listed => Region.ready md ops listed == [i] && (i != last || k.isNil) && planT md ops last k (listed.setIfInBounds i true)
  | .fork i k j l, listed => Region.ready md ops listed == [i, j] && i != last && j != last && k.len == l.len && planT md ops last k (listed.setIfInBounds i true) && planT md ops last l (listed.setIfInBounds j true)
def actT (P : Program) (ops : Array Oper) (Q : Exit → Act → World → Prop) (S : World → Prop) (last i : Nat) (K : Act → World → Prop) (a : Act) (w : World) : Prop := match ops[i]? with
  | none => False
  | some o => ∀ K' : Act → World → Prop, (∀ a w, (i = last ∨ S w) → K a w → K' a w) → if Region.wanted o (yielded ops a.tmps) = true then Oper.wp P o a w K' Q else K' (a.put o.dst undef) w
def inT (P : Program) (ops : Array Oper) (Q : Exit → Act → World → Prop) (S : World → Prop) (last : Nat) : Pl → Act → World → Prop
  | .nil, a, w => Q .normal a w
  | .rd i k, a, w => match ops[i]? with
    | none => False
    | some o => ∃ v, YieldsIf P ops S o v a ∧ inT P ops Q S last k (a.put o.dst v) w
  | .act i k, a, w => actT P ops Q S last i (inT P ops Q S last k) a w
  | .fork i k j l, a, w => actT P ops Q S last i (inT P ops Q S last k) a w ∧ actT P ops Q S last j (inT P ops Q S last l) a w
section
variable {P : Program} {ops : Array Oper} {Q : Exit → Act → World → Prop} {md : Region.Mode} {S : World → Prop} {last : Nat}
theorem actT_op {i : Nat} {K : Act → World → Prop} {listed : Array Bool} {n : Nat} {a : Act} {w : World} (h : actT P ops Q S last i K a w) (hK : ∀ a w, (i = last ∨ S w) → K a w → wpAnyL P md ops Q S last n listed a w) : wpOp P ops Q i (fun a' w' => (i = last ∨ S w') ∧ wpAnyL P md ops Q S last n listed a' w') a w := by
  unfold actT at h
  cases ho : ops[i]? with
  | none => rw [ho] at h; exact h.elim
  | some o =>
    rw [ho] at h
    exact wpOp_step ho (fun K' hK' => h K' (fun a w hS hk => hK' a w ⟨hS, hK a w hS hk⟩))
theorem inT_any (hs : Region.noSelect ops = true) (hQ : ∀ c a d v w, Q (.panic c) (Act.put a d v) w → Q (.panic c) a w) : ∀ (l : Pl) (listed : Array Bool) (a : Act) (w : World), planT md ops last l listed = true →
    (S w ∨ l.isNil = true) → inT P ops Q S last l a w → wpAnyL P md ops Q S last l.len listed a w
  | .nil, listed, a, w, hp, _, h => by
    simp only [inT] at h
    simp only [planT, List.isEmpty_iff] at hp
    exact wpAnyL_done hp h 0
  | .rd i k, listed, a, w, hp, hS, h => by
    simp only [inT] at h
    simp only [planT, Bool.and_eq_true] at hp
    have hSw : S w := hS.resolve_right (by simp [Pl.isNil])
    cases ho : ops[i]? with
    | none => rw [ho] at h; exact h.elim
    | some o =>
      rw [ho] at h
      obtain ⟨v, hy, h⟩ := h
      exact wpAnyL_first ho (Region.noSelect_spec hs) (fun c a w hq => hQ c a _ _ w hq) hp.1.2 k.len listed a w (Region.free_spec ho hp.1.1.1) (by simpa using hp.1.1.2) hy hSw (inT_any hs hQ k _ _ w hp.2 (.inl hSw) h)
  | .act i k, listed, a, w, hp, hS, h => by
    simp only [inT] at h
    simp only [planT, Bool.and_eq_true, beq_iff_eq, Bool.or_eq_true, bne_iff_ne] at hp
    obtain ⟨⟨hp1, hp3⟩, hp2⟩ := hp
    refine ⟨fun h0 => (by rw [hp1] at h0; cases h0), fun j hj => ?_⟩
    rw [hp1] at hj
    simp at hj
    subst hj
    refine actT_op h (fun a' w' hS' hW => inT_any hs hQ k _ a' w' hp2 ?_ hW)
    rcases hS' with e | e
    · exact .inr (hp3.resolve_left (fun h => h e))
    · exact .inl e
  | .fork i k j l, listed, a, w, hp, hS, h => by
    simp only [inT] at h
    simp only [planT, Bool.and_eq_true, beq_iff_eq, bne_iff_ne] at hp
    obtain ⟨⟨⟨⟨⟨hp1, hi⟩, hj⟩, hl⟩, hk2⟩, hl2⟩ := hp
    refine ⟨fun h0 => (by rw [hp1] at h0; cases h0), fun m hm => ?_⟩
    rw [hp1] at hm
    simp at hm
    rcases hm with rfl | rfl
    · exact actT_op h.1 (fun a' w' hS' hW => inT_any hs hQ k _ a' w' hk2 (.inl (hS'.resolve_left hi)) hW)
    · have := fun a' w' (hS' : m = last ∨ S w') hW => inT_any hs hQ l (listed.setIfInBounds m true) a' w' hl2 (.inl (hS'.resolve_left hj)) hW
      rw [← hl] at this
      exact actT_op h.2 this
theorem wp_region_inT {id : Nat} {a : Act} {w : World} (S : World → Prop) (last : Nat) (pl : Pl) (hm : P.follows .mixedOrders = true) (hs : Region.noSelect ops = true) (hl : pl.len = ops.size) (hp : planT .any ops last pl (Array.replicate ops.size false) = true)
    (hQ : ∀ c a d v w, Q (.panic c) (Act.put a d v) w → Q (.panic c) a w) (hS : S w.drew)
    (h : inT P ops Q S last pl a w.drew) : (Code.region id ops true).wp P Q a w := by
  have := inT_any (md := .any) hs hQ pl _ a w.drew hp (.inl hS) h
  rw [hl] at this
  exact wp_region_any hm (wpAny_of_last (S := S) (last := last) _ _ _ _ this)
variable {i j : Nat} {k l : Pl} {a : Act} {w : World} {o : Oper} {v : Value}
theorem inT_read (ho : ops[i]? = some o) (hy : YieldsIf P ops S o v a) (h : inT P ops Q S last k (a.put o.dst v) w) : inT P ops Q S last (.rd i k) a w := by
  simp only [inT, ho]
  exact ⟨v, hy, h⟩
theorem inT_act (ho : ops[i]? = some o) (hw : Region.wanted o (yielded ops a.tmps) = true) (h : ∀ K' : Act → World → Prop, (∀ a w, (i = last ∨ S w) → inT P ops Q S last k a w → K' a w) → Oper.wp P o a w K' Q) : inT P ops Q S last (.act i k) a w := by
  simp only [inT, actT, ho, hw, if_true]
  exact h
theorem inT_fork {o' : Oper} (ho : ops[i]? = some o) (hw : Region.wanted o (yielded ops a.tmps) = true) (ho' : ops[j]? = some o') (hw' : Region.wanted o' (yielded ops a.tmps) = true)
    (h : ∀ K' : Act → World → Prop, (∀ a w, (i = last ∨ S w) → inT P ops Q S last k a w → K' a w) → Oper.wp P o a w K' Q) (h' : ∀ K' : Act → World → Prop, (∀ a w, (j = last ∨ S w) → inT P ops Q S last l a w → K' a w) → Oper.wp P o' a w K' Q) : inT P ops Q S last (.fork i k j l) a w := by
  simp only [inT, actT, ho, hw, ho', hw', if_true]
  exact ⟨h, h'⟩
theorem inT_end (h : Q .normal a w) : inT P ops Q S last .nil a w := h
end
end Go.Proofs.Ythmldhppmpbadaa.Tr
namespace Go.Proofs.Ythmldhppmpbadaa.Tr
open Go.RowKit Go.Proofs.Ythmldhppmpbadaa.Tx
set_option linter.unusedVariables false
set_option linter.unusedSimpArgs false
section
variable {P : Program} {o : Oper} {a : Act} {w w0 : World} {K : Act → World → Prop} {Q : Exit → Act → World → Prop}
  {A : Nat → Prop} {X : Option Nat} {L L' : List Lc} {Rs : List Rw} {Ts : List (List Dt × List Value)}
theorem op_br (T : TypeId) (n : Nat) (parts : Array (Nat × Operand)) (ho : o.op = .buildSlice T n parts) (e : TypeId) (k : Nat) (vs : List Value) (H : Cx w0 A X L Rs Ts w) (hn : vs.length = n * k) (hx : n ≤ 64) (hf : bsCells P T n (parts.map fun (i, x) => (i, a.eval x)).toList = some (e, vs.toArray))
    (h : ∀ b w', w.heap.size ≤ b → w.grownBy w' none → Cx w0 A X L (⟨.slice (some ⟨b, 0, none⟩) n n, e, k, n, vs⟩ :: Rs) Ts w' → K (a.put o.dst (.slice (some ⟨b, 0, none⟩) n n)) w') : o.wp P a w K Q := by
  refine op_val (w' := w.alloc (.cells vs.toArray e)) ?_ (h w.heap.size _ (Nat.le_refl _) (World.grownBy_alloc w _ none) (H.row_new e k n vs hn (by unfold maxLen; omega)))
  unfold execOp
  simp [ho, run_bs hf]
/- 'append(v, things...)'. -/
theorem run_aps {T : TypeId} {ty : TypeId} {e : TypeId} {k by_ : Nat} (hT : P.underlying T = some (.slice e)) (hi : (P.info? e).map (fun i => (i.zero.map (·.cells.size), i.size, i.bytes)) = some (some k, k, by_)) (hk : 0 < k) (hb : by_ ≤ 100000)
    {v : Value} {n m : Nat} {xs : List Value} {oo : Option Addr} {c : Nat} {ds : List Dt} (H : Cx w0 A X L (⟨v, e, k, n, xs⟩ :: Rs) Ts w) (hv : isC w (okL w0 A L (⟨v, e, k, n, xs⟩ :: Rs)) (.s m ds) (.slice oo m c)) (hd : ds.length = m * k) (hg : ∀ us, isV w (okL w0 A L (⟨v, e, k, n, xs⟩ :: Rs)) ds us → us.all (·.oneCell') = true) (hn : n + m ≤ 900000) :
    ∃ v' w' us, (Builtin.append_ #[T, T] ty #[v, .slice oo m c]).run P w = .ok v' w' ∧ w.grownBy w' v.ownBlock ∧ (∃ d cp, v' = .slice d (n + m) cp) ∧ Cx w0 A X L (⟨v', e, k, n + m, xs ++ us⟩ :: Rs) ((ds, us) :: Ts) w' := by
  cases hie : P.info? e with
  | none => simp [hie] at hi
  | some ie =>
    simp [hie] at hi
    obtain ⟨⟨z, hz, hzk⟩, hsz, hby⟩ := hi
    have hr0 := H.row _ (.head _)
    have shape : ∀ {w' : World} {v' : Value} {ys : List Value}, w'.ownsRow w0.heap.size e k v' (n + m) ys → ∃ d cp, v' = .slice d (n + m) cp := fun h2 => by
      rcases h2.2 with ⟨rfl, h0⟩ | ⟨g, cap, cur, rfl, _⟩
      · exact ⟨none, 0, by rw [h0]⟩
      · exact ⟨_, cap, rfl⟩
    have hv' := hv
    rw [isC.eq_2] at hv
    obtain ⟨o', c', he, hnone, hl⟩ := hv
    obtain ⟨e1, e2⟩ : o' = oo ∧ c' = c := by simp at he; exact ⟨he.1.symm, he.2.symm⟩
    subst o'
    subst c'
    clear he
    have key : ∀ ad us, oo = some ad → us.length = m * k → (∀ j u, us[j]? = some u → w.cell? (ad.add j) = some u) → isV w (okL w0 A L (⟨v, e, k, n, xs⟩ :: Rs)) ds us → ∃ v' w' us, (Builtin.append_ #[T, T] ty #[v, .slice oo m c]).run P w = .ok v' w' ∧ w.grownBy w' v.ownBlock ∧ (∃ d cp, v' = .slice d (n + m) cp) ∧ Cx w0 A X L (⟨v', e, k, n + m, xs ++ us⟩ :: Rs) ((ds, us) :: Ts) w' := by
      intro ad us e1 hlen hc hus
      subst e1
      obtain ⟨v', w', hr, h2, h3, h4, h5⟩ := run_append_own_at (P := P) w w0.heap.size T ty e ie z k by_ hT hie hz hsz hby hzk hk v n xs hr0 ad m c us hlen hc (fun u hu => List.all_eq_true.1 (hg us hus) u hu) (by unfold maxLen; omega) (Nat.le_trans (Nat.mul_le_mul (show n + m ≤ 1000000 by omega) hb) (by decide)) H.grown.size
      exact ⟨v', w', us, hr, h3, shape h2, (H.add hus).row_app h2 h3 h5⟩
    rcases hl with hl | ⟨ad, us, h1, hok, hc, hus⟩
    · subst hl
      have hm0 : m = 0 := by
        have h0 : m * k = 0 := by simpa using hd.symm
        rcases Nat.mul_eq_zero.1 h0 with h | h
        · exact h
        · omega
      subst hm0
      cases oo with
      | none =>
        obtain ⟨_, rfl⟩ := hnone rfl
        have hrun := run_append_owned_none (P := P) (w := w) w0.heap.size T ty e ie k hT hie v n xs hr0
        refine ⟨v, w, [], hrun, grown_refl w _, shape (w' := w) (ys := xs) hr0, ?_⟩
        rw [List.append_nil]
        exact H.add isV_none
      | some ad => exact key ad [] rfl (by simp) (by simp) isV_none
    · exact key ad us h1 (by rw [isV_len _ _ hus, hd]) hc hus
theorem op_aps (s x : Operand) {T : TypeId} (ho : o.op = .call { callee := .builtin .append, args := #[s, x], argTypes := #[T, T] }) {e : TypeId} {k by_ : Nat} (hT : P.underlying T = some (.slice e)) (hi : (P.info? e).map (fun i => (i.zero.map (·.cells.size), i.size, i.bytes)) = some (some k, k, by_)) (hk : 0 < k) (hb : by_ ≤ 100000)
    {v : Value} {n m : Nat} {xs : List Value} {oo : Option Addr} {c : Nat} (hs : a.eval s = v) (hx : a.eval x = .slice oo m c) (H : Cx w0 A X L (⟨v, e, k, n, xs⟩ :: Rs) Ts w) {ds : List Dt} (hv : isV w (okL w0 A L (⟨v, e, k, n, xs⟩ :: Rs)) [.s m ds] [.slice oo m c]) (hd : ds.length = m * k) (hg : ∀ us, isV w (okL w0 A L (⟨v, e, k, n, xs⟩ :: Rs)) ds us → us.all (·.oneCell') = true) (hn : n + m ≤ 900000)
    (h : ∀ d cp us w', w.grownBy w' v.ownBlock → Cx w0 A X L (⟨.slice d (n + m) cp, e, k, n + m, xs ++ us⟩ :: Rs) ((ds, us) :: Ts) w' → K (a.put o.dst (.slice d (n + m) cp)) w') : o.wp P a w K Q := by
  obtain ⟨v', w', us, hr, hgr, ⟨d, cp, rfl⟩, hc⟩ := run_aps (ty := o.type) hT hi hk hb H (isV_one hv) hd hg hn
  refine op_val (w' := w') ?_ (h d cp us w' hgr hc)
  unfold execOp
  simp only [ho, resolve, invoke, builtin, Sem.run_bind, Sem.run_pure, Result.andThen_ok, List.map_toArray, List.map_cons, List.map_nil, hs, hx, hr]
theorem gr_own {s w w' : World} {p b : Nat} (h : s.grownBy w (some p)) (hg : w.grownBy w' (some b)) (hb : s.heap.size ≤ b) : s.grownBy w' (some p) := grown_then h hg (fun y e => by cases e; exact .inr hb)
/- One thing of a slice, read. -/
theorem wl_elem {ops : Array Oper} {rest : List Oper} {α : Type} {enc : α → List Dt} {k : Nat} (hk : ∀ x, (enc x).length = k) (h0 : 0 < k) (hgd : o.guard = none) (T : TypeId) (x : Operand) (ho : o.op = .load T x) (hT : TyS P T k) {l : List α} {m : Nat} {oo : Option Addr} {n c i : Nat} {y : α} (H : Cx w0 A X L Rs Ts w) (hv : isV w (okL w0 A L Rs) [.s m (l.flatMap enc)] [.slice oo n c]) (hy : l[i]? = some y) {B : Addr} (hx : a.eval x = .pointer (some B)) (hB : ∀ ad, oo = some ad → ad.add (i * k) = B)
    (h : ∀ us, isV w (okL w0 A L Rs) (enc y) us → wpList P ops Q rest (a.put o.dst (.agg us.toArray)) w) : wpList P ops Q (o :: rest) a w := by
  obtain ⟨ad, us, h1, h2, h3, h4⟩ := row_at hk h0 (isV_one hv) hy
  have e := hB ad h1
  rw [e] at h4
  refine wl_val hgd ?_ (h us h3)
  unfold execOp
  simp [ho, hx, Instr.loadAt, Instr.sureAddr, run_load_s hT B us (by rw [isV_len _ _ h3, hk]) h4]
end
/- Cells that are single ones. -/
mutual
def oneD : Dt → Bool
  | .c v => v.oneCell'
  | .s _ _ => true
end
theorem one_all {w : World} {ok : Nat → Prop} : ∀ (ds : List Dt) (us : List Value), ds.all oneD = true → isV w ok ds us → us.all (·.oneCell') = true
  | [], us, _, h => by simp only [isV] at h; subst h; rfl
  | d :: ds, us, hd, h => by
    simp only [isV] at h
    obtain ⟨v, vs, rfl, h1, h2⟩ := h
    simp only [List.all_cons, Bool.and_eq_true] at hd ⊢
    refine ⟨?_, one_all ds vs hd.2 h2⟩
    cases d with
    | c u => simp only [isC] at h1; subst h1; simpa [oneD] using hd.1
    | s n l => simp only [isC] at h1; obtain ⟨o, cp, rfl, _⟩ := h1; rfl
theorem exD_one (x : Ex) : (exD x).all oneD = true := by cases x; rfl
theorem txD_one (x : Tx) : (txD x).all oneD = true := by cases x; rfl
theorem fdD_one (x : Fd) : (fdD x).all oneD = true := by
  cases x with
  | mk nm b ty a => simp [fdD, txD_one, oneD, ct, cb, ci, Value.oneCell']
theorem flat_one {α : Type} {enc : α → List Dt} (h : ∀ x, (enc x).all oneD = true) (l : List α) : (l.flatMap enc).all oneD = true := by
  induction l with
  | nil => rfl
  | cons x l ih => rw [List.flatMap_cons, List.all_append, h, ih]; rfl
theorem flat_len {α : Type} {enc : α → List Dt} {k : Nat} (h : ∀ x, (enc x).length = k) (l : List α) : (l.flatMap enc).length = l.length * k := by
  induction l with
  | nil => simp
  | cons x l ih => rw [List.flatMap_cons, List.length_append, h, ih, List.length_cons, Nat.succ_mul]; omega
end Go.Proofs.Ythmldhppmpbadaa.Tr
namespace Go.Proofs.Ythmldhppmpbadaa.Tr
open Go.RowKit Go.Proofs.Ythmldhppmpbadaa.Tx
set_option linter.unusedVariables false
set_option linter.unusedSimpArgs false
section
variable {P : Program} {o : Oper} {a : Act} {w w0 : World} {K : Act → World → Prop} {Q : Exit → Act → World → Prop}
  {A : Nat → Prop} {X : Option Nat} {L L' : List Lc} {Rs : List Rw} {Ts : List (List Dt × List Value)}
theorem Cx.row_turn {v v' : Value} {e : TypeId} {k n n' : Nat} {xs xs' : List Value} {w' : World} (H : Cx w0 A X L (⟨v, e, k, n, xs⟩ :: Rs) Ts w) (h2 : w'.ownsRow w0.heap.size e k v' n' xs') (hg : w.grownBy w' v.ownBlock) (hl : v'.ownBlock = v.ownBlock ∨ v'.ownBlock = some w.heap.size) : Cx w0 A X L (⟨v', e, k, n', xs'⟩ :: Rs) Ts w' := by
  have hr0 := H.row _ (.head _)
  have hrr := List.pairwise_cons.1 H.rr
  refine ⟨grown_then H.grown hg (fun y e => .inr (hr0.lt y e).1), fun p hp => ?_, H.old, H.dis, fun r hr => ?_, fun r hr => ?_, ?_, fun p hp => isV.kept (Fr.grow hg (fun b hb hbl => ⟨hb.1, hb.2.1, fun r hr => ?_⟩) (fun b e hb => hb.2.2 _ (.head _) e)) _ _ (H.tr p hp), H.xx⟩
  · rw [hg.block p.b (H.lt hp) (fun e => H.rl _ (.head _) p hp e.symm)]
    exact H.loc p hp
  · rcases List.mem_cons.1 hr with rfl | hr
    · exact h2
    · refine (H.row r (.tail _ hr)).kept hg ?_
      rcases hrr.1 r hr with h | h
      · simp only at h
        cases hv : r.v.ownBlock with
        | none => exact .inl rfl
        | some y => exact .inr (by rw [h]; simp)
      · exact .inr (fun e => h e.symm)
  · rcases List.mem_cons.1 hr with rfl | hr
    · intro p hp e
      rcases hl with h | h
      · rw [h] at e; exact H.rl _ (.head _) p hp e
      · rw [h] at e
        have := H.lt hp
        simp at e
        omega
    · exact H.rl r (.tail _ hr)
  · refine List.pairwise_cons.2 ⟨fun r hr => ?_, hrr.2⟩
    rcases hl with h | h
    · simp only [h]
      exact hrr.1 r hr
    · right
      simp only [h]
      intro e
      have := ((H.row r (.tail _ hr)).lt _ e.symm).2
      omega
  · rcases List.mem_cons.1 hr with rfl | hr
    · intro e
      rcases hl with h | h
      · rw [h] at e; exact hb.2.2 _ (.head _) e
      · rw [h] at e
        simp at e
        omega
    · exact hb.2.2 r (.tail _ hr)
theorem take_put (l us : List Value) (off N : Nat) (h : off + us.length ≤ N) (hN : N ≤ l.length) : (l.take off ++ us ++ l.drop (off + us.length)).take N = (l.take N).take off ++ us ++ (l.take N).drop (off + us.length) := by
  have e1 : (l.take off ++ us).length = off + us.length := by simp; omega
  rw [List.take_append, e1, List.take_of_length_le (by omega), List.take_take, Nat.min_eq_left (by omega), List.drop_take]
/- Cells of the first row are written. -/
theorem run_rowset {g n cap : Nat} {e : TypeId} {k : Nat} {xs us : List Value} {off : Nat} {T : TypeId} {v : Value} (H : Cx w0 A X L (⟨.slice (some ⟨g, 0, none⟩) n cap, e, k, n, xs⟩ :: Rs) Ts w) (hv : v.cells = us.toArray) (hs : (P.info? T).map (·.size) = some us.length) (h1 : us.all (·.oneCell') = true) (hf : off + us.length ≤ xs.length) :
    ∃ w', (storeVar T ⟨g, off, none⟩ v).run P w = .ok () w' ∧ w.grownBy w' (some g) ∧ Cx w0 A X L (⟨.slice (some ⟨g, 0, none⟩) n cap, e, k, n, xs.take off ++ us ++ xs.drop (off + us.length)⟩ :: Rs) Ts w' := by
  have hr0 := H.row _ (.head _)
  obtain ⟨hn, ⟨hx, _⟩ | ⟨g', cap', cur, hv', hb, hh, hc1, hc2, hc3, hc4⟩⟩ := id hr0
  · cases hx
  injection hv' with h1' h2' h3'
  injection h1' with h1'
  injection h1' with h1'
  subst h1'
  subst h3'
  have hlen : n * k ≤ cur.size := by rw [hc3]; exact Nat.mul_le_mul_right k hc1
  simp only at hn hc4
  have hst := run_storeCells_at P g off e us 0 cur w hh (by omega) (fun v hv => List.all_eq_true.1 h1 v hv)
  simp only [Nat.add_zero] at hst
  have hg : w.grownBy (w.setRow g (cur.toList.take off ++ us ++ cur.toList.drop (off + us.length)).toArray) (some g) := ⟨rfl, rfl, rfl, by simp, fun k _ hk => setRow_other w g k _ (fun e => hk (by rw [e]))⟩
  refine ⟨_, by simp [storeVar, hv, run_size hs, hst], hg, ?_⟩
  refine H.row_turn ⟨?_, .inr ⟨g, cap, _, rfl, hb, setRow_heap w _ _ _ _ _ hh, hc1, hc2, ?_, ?_⟩⟩ hg (.inl rfl)
  · simp; omega
  · simp only at hc3
    simp
    omega
  · rw [← hc4]
    exact take_put _ _ _ _ (by omega) (by simpa using hlen)
theorem wl_rowset {ops : Array Oper} {rest : List Oper} (hgd : o.guard = none) (T : TypeId) (x y : Operand) (ho : o.op = .store T x y) {g n cap off : Nat} {e : TypeId} {k : Nat} {xs us : List Value} (hx : a.eval x = .pointer (some ⟨g, off, none⟩)) (hv : (a.eval y).cells = us.toArray) (hs : (P.info? T).map (·.size) = some us.length) (h1 : us.all (·.oneCell') = true) (H : Cx w0 A X L (⟨.slice (some ⟨g, 0, none⟩) n cap, e, k, n, xs⟩ :: Rs) Ts w) (hf : off + us.length ≤ xs.length)
    (h : ∀ w', Cx w0 A X L (⟨.slice (some ⟨g, 0, none⟩) n cap, e, k, n, xs.take off ++ us ++ xs.drop (off + us.length)⟩ :: Rs) Ts w' → wpList P ops Q rest (a.put o.dst undef) w') : wpList P ops Q (o :: rest) a w := by
  obtain ⟨w', hr, hg, hc⟩ := run_rowset (P := P) (T := T) H hv hs h1 hf
  refine wl_skip (w' := w') hgd ?_ (h _ hc)
  unfold execOp
  simp [ho, hx, Instr.storeAt, Instr.sureAddr, hr]
theorem op_rowset (T : TypeId) (x y : Operand) (ho : o.op = .store T x y) {g n cap off : Nat} {e : TypeId} {k : Nat} {xs us : List Value} (hx : a.eval x = .pointer (some ⟨g, off, none⟩)) (hv : (a.eval y).cells = us.toArray) (hs : (P.info? T).map (·.size) = some us.length) (h1 : us.all (·.oneCell') = true) (H : Cx w0 A X L (⟨.slice (some ⟨g, 0, none⟩) n cap, e, k, n, xs⟩ :: Rs) Ts w) (hf : off + us.length ≤ xs.length)
    (h : ∀ w', w.grownBy w' (some g) → Cx w0 A X L (⟨.slice (some ⟨g, 0, none⟩) n cap, e, k, n, xs.take off ++ us ++ xs.drop (off + us.length)⟩ :: Rs) Ts w' → K (a.put o.dst undef) w') : o.wp P a w K Q := by
  obtain ⟨w', hr, hg, hc⟩ := run_rowset (P := P) (T := T) H hv hs h1 hf
  unfold Oper.wp
  have : (execOp a.eval o).run P w = .ok .skip w' := by
    unfold execOp
    simp [ho, hx, Instr.storeAt, Instr.sureAddr, hr]
  rw [this]
  exact h _ hg hc
/- A row that a callee made and handed on. -/
def roV {α : Type} (enc : α → List Dt) (e : TypeId) (k : Nat) (w : World) (w' : World) (l : List α) (v : Value) : Prop := ∃ o cp xs, v = .slice o l.length cp ∧ w'.ownsRow w.heap.size e k (.slice o l.length cp) l.length xs ∧ isV w' (fun b => w.heap.size ≤ b ∧ (Value.slice o l.length cp).ownBlock ≠ some b) (l.flatMap enc) xs ∧ l.length ≤ 7000
theorem own_base {w : World} {B B' : Nat} {e : TypeId} {k : Nat} {v : Value} {n : Nat} {xs : List Value} (h : w.ownsRow B e k v n xs) (hb : B' ≤ B) : w.ownsRow B' e k v n xs := by
  obtain ⟨h1, h2⟩ := h
  refine ⟨h1, h2.imp id ?_⟩
  rintro ⟨g, cap, cur, e1, e2, e3⟩
  exact ⟨g, cap, cur, e1, Nat.le_trans hb e2, e3⟩
theorem Cx.rowX {x : Nat} {cs cs' : List Value} {t : TypeId} {w' : World} {G : Prop} {ds : List Dt} {e : TypeId} {k n : Nat} {v : Value} {xs : List Value} (H : Cx w0 A (some x) L Rs Ts w) (hg : w.grownBy w' (some x)) (hm : ⟨x, cs, t⟩ ∈ L) (hh : w'.heap[x]? = some (.cells cs'.toArray t (0, 0))) (hu : Upd x cs' L L') (hr : w'.ownsRow w.heap.size e k v n xs) (hv : isV w' (fun b => w.heap.size ≤ b ∧ v.ownBlock ≠ some b) ds xs) (h : Cx w0 A (some x) L' (⟨v, e, k, n, xs⟩ :: Rs) ((ds, xs) :: Ts) w' → G) : G := by
  have H' := H.callX hg hm hh hu
  have lt1 : ∀ p ∈ L', p.b < w.heap.size := mem_blocks (P := fun b => b < w.heap.size) hu.map (fun p hp => H.lt hp)
  have own : ∀ b, v.ownBlock = some b → w.heap.size ≤ b := fun b hb => (hr.lt b hb).1
  refine h ⟨H'.grown, H'.loc, H'.old, H'.dis, fun r hr' => ?_, fun r hr' => ?_, List.pairwise_cons.2 ⟨fun r hr' => ?_, H'.rr⟩, fun p hp => ?_, H'.xx⟩
  · rcases List.mem_cons.1 hr' with rfl | hr'
    · exact own_base hr H.grown.size
    · exact H'.row r hr'
  · rcases List.mem_cons.1 hr' with rfl | hr'
    · intro p hp e
      have := own _ e
      have := lt1 p hp
      omega
    · exact H'.rl r hr'
  · by_cases h0 : v.ownBlock = none
    · exact .inl h0
    · refine .inr (fun e => ?_)
      cases hb : v.ownBlock with
      | none => exact h0 hb
      | some b =>
        simp only at e
        rw [hb] at e
        have h1 := ((H.row r hr').lt b e.symm).2
        have := own b hb
        omega
  · rcases List.mem_cons.1 hp with rfl | hp
    · refine isV.kept (Fr.here (fun b hb _ => ⟨.inr (Nat.le_trans H.grown.size hb.1), fun p hp e => ?_, fun r hr' => ?_⟩)) _ _ hv
      · have := lt1 p hp
        have := hb.1
        omega
      · rcases List.mem_cons.1 hr' with rfl | hr'
        · exact hb.2
        · intro e
          have := ((H.row r hr').lt b e).2
          have := hb.1
          omega
    · refine isV.kept (Fr.grow hg (fun b hb hl => ⟨hb.1, mem_blocks (P := fun c => c ≠ b) hu.map hb.2.1, fun r hr' => ?_⟩) (fun c e hc => by cases e; exact hc.2.1 _ hm rfl)) _ _ (H.tr p hp)
      rcases List.mem_cons.1 hr' with rfl | hr'
      · intro e
        have := own b e
        omega
      · exact hb.2.2 r hr'
end
end Go.Proofs.Ythmldhppmpbadaa.Tr
namespace Go.Proofs.Ythmldhppmpbadaa.Tr
open Go.RowKit Go.Proofs.Ythmldhppmpbadaa.Tx
set_option linter.unusedVariables false
set_option linter.unusedSimpArgs false
section
variable {P : Program} {o : Oper} {a : Act} {w w0 : World} {K : Act → World → Prop} {Q : Exit → Act → World → Prop}
  {A : Nat → Prop} {X : Option Nat} {L L' : List Lc} {Rs : List Rw} {Ts : List (List Dt × List Value)}
theorem Cx.row0 {w' : World} {G : Prop} {e : TypeId} {k n : Nat} {v : Value} {xs : List Value} (H : Cx w0 A X L Rs Ts w) (hg : w.grownBy w' none) (hr : w'.ownsRow w.heap.size e k v n xs) (h : Cx w0 A X L (⟨v, e, k, n, xs⟩ :: Rs) Ts w' → G) : G := by
  have H' := H.g hg
  have lt1 : ∀ p ∈ L, p.b < w.heap.size := fun p hp => H.lt hp
  have own : ∀ b, v.ownBlock = some b → w.heap.size ≤ b := fun b hb => (hr.lt b hb).1
  refine h ⟨H'.grown, H'.loc, H'.old, H'.dis, fun r hr' => ?_, fun r hr' => ?_, List.pairwise_cons.2 ⟨fun r hr' => ?_, H'.rr⟩, fun p hp => ?_, H'.xx⟩
  · rcases List.mem_cons.1 hr' with rfl | hr'
    · exact own_base hr H.grown.size
    · exact H'.row r hr'
  · rcases List.mem_cons.1 hr' with rfl | hr'
    · intro p hp e
      have := own _ e
      have := lt1 p hp
      omega
    · exact H'.rl r hr'
  · by_cases h0 : v.ownBlock = none
    · exact .inl h0
    · refine .inr (fun e => ?_)
      cases hb : v.ownBlock with
      | none => exact h0 hb
      | some b =>
        simp only at e
        rw [hb] at e
        have h1 := ((H.row r hr').lt b e.symm).2
        have := own b hb
        omega
  · refine isV.kept (Fr.grow hg (fun b hb hl => ⟨hb.1, hb.2.1, fun r hr' => ?_⟩) (fun c e => by cases e)) _ _ (H.tr p hp)
    rcases List.mem_cons.1 hr' with rfl | hr'
    · intro e
      have := own b e
      omega
    · exact hb.2.2 r hr'
theorem wl_elemC {ops : Array Oper} {rest : List Oper} {α : Type} {enc : α → List Dt} (hk : ∀ x, (enc x).length = 1) (hgd : o.guard = none) (T : TypeId) (x : Operand) (ho : o.op = .load T x) (hT : TyC P T) {l : List α} {m : Nat} {oo : Option Addr} {n c i : Nat} {y : α} (H : Cx w0 A X L Rs Ts w) (hv : isV w (okL w0 A L Rs) [.s m (l.flatMap enc)] [.slice oo n c]) (hy : l[i]? = some y) {B : Addr} (hx : a.eval x = .pointer (some B)) (hB : ∀ ad, oo = some ad → ad.add (i * 1) = B)
    (h : ∀ u, isV w (okL w0 A L Rs) (enc y) [u] → wpList P ops Q rest (a.put o.dst u) w) : wpList P ops Q (o :: rest) a w := by
  obtain ⟨ad, us, h1, h2, h3, h4⟩ := row_at hk (by decide) (isV_one hv) hy
  have e := hB ad h1
  rw [e] at h4
  have hl := isV_len _ _ h3
  rw [hk] at hl
  match us, hl with
  | [u], _ =>
    refine wl_val hgd ?_ (h u h3)
    have := h4 0 u rfl
    rw [Addr.add_zero'] at this
    unfold execOp
    simp [ho, hx, Instr.loadAt, Instr.sureAddr, run_load_c hT B u this]
theorem wl_aps {ops : Array Oper} {rest : List Oper} (hgd : o.guard = none) (s x : Operand) {T : TypeId} (ho : o.op = .call { callee := .builtin .append, args := #[s, x], argTypes := #[T, T] }) {e : TypeId} {k by_ : Nat} (hT : P.underlying T = some (.slice e)) (hi : (P.info? e).map (fun i => (i.zero.map (·.cells.size), i.size, i.bytes)) = some (some k, k, by_)) (hk : 0 < k) (hb : by_ ≤ 100000)
    {v : Value} {n m : Nat} {xs : List Value} {oo : Option Addr} {c : Nat} (hs : a.eval s = v) (hx : a.eval x = .slice oo m c) (H : Cx w0 A X L (⟨v, e, k, n, xs⟩ :: Rs) Ts w) {ds : List Dt} (hv : isV w (okL w0 A L (⟨v, e, k, n, xs⟩ :: Rs)) [.s m ds] [.slice oo m c]) (hd : ds.length = m * k) (hg : ds.all oneD = true) (hn : n + m ≤ 900000)
    (h : ∀ d cp us w', Cx w0 A X L (⟨.slice d (n + m) cp, e, k, n + m, xs ++ us⟩ :: Rs) ((ds, us) :: Ts) w' → wpList P ops Q rest (a.put o.dst (.slice d (n + m) cp)) w') : wpList P ops Q (o :: rest) a w := by
  obtain ⟨v', w', us, hr, hgr, ⟨d, cp, rfl⟩, hc⟩ := run_aps (ty := o.type) hT hi hk hb H (isV_one hv) hd (fun us hus => one_all _ _ hg hus) hn
  refine wl_val (w' := w') hgd ?_ (h d cp us w' hc)
  unfold execOp
  simp only [ho, resolve, invoke, builtin, Sem.run_bind, Sem.run_pure, Result.andThen_ok, List.map_toArray, List.map_cons, List.map_nil, hs, hx, hr]
/- What operation stands there, looked at first. -/
theorem at_store {ops : Array Oper} {rest : List Oper} (T : TypeId) {x y : Operand} (_ : o.op = .store T x y) (h : wpList P ops Q (o :: rest) a w) : wpList P ops Q (o :: rest) a w := h
theorem at_load {ops : Array Oper} {rest : List Oper} (T : TypeId) {x : Operand} (_ : o.op = .load T x) (h : wpList P ops Q (o :: rest) a w) : wpList P ops Q (o :: rest) a w := h
theorem at_alloc {ops : Array Oper} {rest : List Oper} (T : TypeId) (_ : o.op = .alloc T) (h : wpList P ops Q (o :: rest) a w) : wpList P ops Q (o :: rest) a w := h
theorem at_box {ops : Array Oper} {rest : List Oper} (T : TypeId) {x : Operand} (_ : o.op = .box T x) (h : wpList P ops Q (o :: rest) a w) : wpList P ops Q (o :: rest) a w := h
theorem at_bs {ops : Array Oper} {rest : List Oper} (T : TypeId) {n : Nat} {parts : Array (Nat × Operand)} (_ : o.op = .buildSlice T n parts) (h : wpList P ops Q (o :: rest) a w) : wpList P ops Q (o :: rest) a w := h
end
end Go.Proofs.Ythmldhppmpbadaa.Tr
namespace Go.Proofs.Ythmldhppmpbadaa.Tr
open Go.RowKit Go.Proofs.Ythmldhppmpbadaa.Tx
set_option linter.unusedVariables false
set_option linter.unusedSimpArgs false
section
variable {P : Program} {o : Oper} {a : Act} {w w0 : World} {K : Act → World → Prop} {Q : Exit → Act → World → Prop}
  {A : Nat → Prop} {X : Option Nat} {L L' : List Lc} {Rs : List Rw} {Ts : List (List Dt × List Value)}
theorem Cx.swap {r s : Rw} (H : Cx w0 A X L (r :: s :: Rs) Ts w) : Cx w0 A X L (s :: r :: Rs) Ts w := by
  have mm : ∀ t, t ∈ s :: r :: Rs → t ∈ r :: s :: Rs := fun t ht => by
    simp only [List.mem_cons] at ht ⊢
    rcases ht with h | h | h
    · exact .inr (.inl h)
    · exact .inl h
    · exact .inr (.inr h)
  have mm' : ∀ t, t ∈ r :: s :: Rs → t ∈ s :: r :: Rs := fun t ht => by
    simp only [List.mem_cons] at ht ⊢
    rcases ht with h | h | h
    · exact .inr (.inl h)
    · exact .inl h
    · exact .inr (.inr h)
  have h1 := List.pairwise_cons.1 H.rr
  have h2 := List.pairwise_cons.1 h1.2
  refine ⟨H.grown, H.loc, H.old, H.dis, fun t ht => H.row t (mm t ht), fun t ht => H.rl t (mm t ht), List.pairwise_cons.2 ⟨fun t ht => ?_, List.pairwise_cons.2 ⟨fun t ht => h1.1 t (.tail _ ht), h2.2⟩⟩, fun p hp => isV.kept (Fr.here (fun b hb _ => ⟨hb.1, hb.2.1, fun t ht => hb.2.2 t (mm t ht)⟩)) _ _ (H.tr p hp), H.xx⟩
  rcases List.mem_cons.1 ht with rfl | ht
  · rcases h1.1 s (.head _) with h | h
    · cases hs : s.v.ownBlock with
      | none => exact .inl rfl
      | some y => exact .inr (by rw [h]; simp)
    · exact .inr (Ne.symm h)
  · exact h2.1 t ht
theorem Cx.rowY {x : Nat} {cs cs' : List Value} {t : TypeId} {w' : World} {G : Prop} {ds : List Dt} {vs : List Value} {e : TypeId} {k n : Nat} {v : Value} {xs : List Value} (H : Cx w0 A (some x) L Rs Ts w) (hg : w.grownBy w' (some x)) (hm : ⟨x, cs, t⟩ ∈ L) (hh : w'.heap[x]? = some (.cells cs'.toArray t (0, 0))) (hu : Upd x cs' L L') (hr : w'.ownsRow w.heap.size e k v n xs) (hv : isV w' (fun b => w.heap.size ≤ b ∧ v.ownBlock ≠ some b) ds vs) (h : Cx w0 A (some x) L' (⟨v, e, k, n, xs⟩ :: Rs) ((ds, vs) :: Ts) w' → G) : G := by
  have H' := H.callX hg hm hh hu
  have lt1 : ∀ p ∈ L', p.b < w.heap.size := mem_blocks (P := fun b => b < w.heap.size) hu.map (fun p hp => H.lt hp)
  have own : ∀ b, v.ownBlock = some b → w.heap.size ≤ b := fun b hb => (hr.lt b hb).1
  refine h ⟨H'.grown, H'.loc, H'.old, H'.dis, fun r hr' => ?_, fun r hr' => ?_, List.pairwise_cons.2 ⟨fun r hr' => ?_, H'.rr⟩, fun p hp => ?_, H'.xx⟩
  · rcases List.mem_cons.1 hr' with rfl | hr'
    · exact own_base hr H.grown.size
    · exact H'.row r hr'
  · rcases List.mem_cons.1 hr' with rfl | hr'
    · intro p hp e
      have := own _ e
      have := lt1 p hp
      omega
    · exact H'.rl r hr'
  · by_cases h0 : v.ownBlock = none
    · exact .inl h0
    · refine .inr (fun e => ?_)
      cases hb : v.ownBlock with
      | none => exact h0 hb
      | some b =>
        simp only at e
        rw [hb] at e
        have h1 := ((H.row r hr').lt b e.symm).2
        have := own b hb
        omega
  · rcases List.mem_cons.1 hp with rfl | hp
    · refine isV.kept (Fr.here (fun b hb _ => ⟨.inr (Nat.le_trans H.grown.size hb.1), fun p hp e => ?_, fun r hr' => ?_⟩)) _ _ hv
      · have := lt1 p hp
        have := hb.1
        omega
      · rcases List.mem_cons.1 hr' with rfl | hr'
        · exact hb.2
        · intro e
          have := ((H.row r hr').lt b e).2
          have := hb.1
          omega
    · refine isV.kept (Fr.grow hg (fun b hb hl => ⟨hb.1, mem_blocks (P := fun c => c ≠ b) hu.map hb.2.1, fun r hr' => ?_⟩) (fun c e hc => by cases e; exact hc.2.1 _ hm rfl)) _ _ (H.tr p hp)
      rcases List.mem_cons.1 hr' with rfl | hr'
      · intro e
        have := own b e
        omega
      · exact hb.2.2 r hr'
theorem op_bl (T : TypeId) (n : Nat) (parts : Array (Nat × Operand)) (ho : o.op = .buildSlice T n parts) (e : TypeId) (vs : List Value) (H : Cx w0 A X L Rs Ts w) (hf : bsCells P T n (parts.map fun (i, x) => (i, a.eval x)).toList = some (e, vs.toArray))
    (h : ∀ b w', NX X b → w.grownBy w' none → Cx w0 A X (⟨b, vs, e⟩ :: L) Rs Ts w' → K (a.put o.dst (.slice (some ⟨b, 0, none⟩) n n)) w') : o.wp P a w K Q := by
  refine op_val (w' := w.alloc (.cells vs.toArray e)) ?_ (h w.heap.size _ H.nx (World.grownBy_alloc w _ none) (H.loc_new vs e))
  unfold execOp
  simp [ho, run_bs hf]
theorem op_ap (s x : Operand) {T : TypeId} (ho : o.op = .call { callee := .builtin .append, args := #[s, x], argTypes := #[T, T] }) {e : TypeId} {k by_ : Nat} (hT : P.underlying T = some (.slice e)) (hi : (P.info? e).map (fun i => (i.zero.map (·.cells.size), i.size, i.bytes)) = some (some k, k, by_)) (hk : 0 < k) (hb : by_ ≤ 100000)
    {v : Value} {n b : Nat} {xs us : List Value} {t : TypeId} (hs : a.eval s = v) (hx : a.eval x = .slice (some ⟨b, 0, none⟩) 1 1) (H : Cx w0 A X (⟨b, us, t⟩ :: L) (⟨v, e, k, n, xs⟩ :: Rs) Ts w) (hl : us.length = 1 * k) (h1 : us.all (·.oneCell') = true) (hn : n ≤ 900000)
    (h : ∀ d cp w', w.grownBy w' v.ownBlock → Cx w0 A X L (⟨.slice d (n + 1) cp, e, k, n + 1, xs ++ us⟩ :: Rs) Ts w' → K (a.put o.dst (.slice d (n + 1) cp)) w') : o.wp P a w K Q := by
  cases hie : P.info? e with
  | none => simp [hie] at hi
  | some ie =>
    simp [hie] at hi
    obtain ⟨⟨z, hz, hzk⟩, hsz, hby⟩ := hi
    have hr0 := H.row _ (.head _)
    obtain ⟨v', w', hr, h2, h3, h4, h5⟩ := run_append_own_at (P := P) w w0.heap.size T o.type e ie z k by_ hT hie hz hsz hby hzk hk v n xs hr0 ⟨b, 0, none⟩ 1 1 us hl (cells_at H (.head _) (GetS.all us)) (fun u hu => List.all_eq_true.1 h1 u hu) (by unfold maxLen; omega) (Nat.le_trans (Nat.mul_le_mul (show n + 1 ≤ 1000000 by omega) hb) (by decide)) H.grown.size
    have hsh : ∃ d cp, v' = .slice d (n + 1) cp := by
      rcases h2.2 with ⟨rfl, h0⟩ | ⟨g, cap, cur, rfl, _⟩
      · exact ⟨none, 0, by rw [h0]⟩
      · exact ⟨_, cap, rfl⟩
    obtain ⟨d, cp, rfl⟩ := hsh
    refine op_val (w' := w') ?_ (h d cp w' h3 (H.row_app h2 h3 h5).drop)
    unfold execOp
    simp only [ho, resolve, invoke, builtin, Sem.run_bind, Sem.run_pure, Result.andThen_ok, List.map_toArray, List.map_cons, List.map_nil, hs, hx, hr]
theorem isV_cons {w : World} {ok : Nat → Prop} {d : Dt} {ds : List Dt} {v : Value} {vs : List Value} (h : isV w ok (d :: ds) (v :: vs)) : isV w ok [d] [v] ∧ isV w ok ds vs := by
  simp only [isV] at h
  obtain ⟨_, _, e, h1, h2⟩ := h
  cases e
  exact ⟨isV_of h1, h2⟩
end
end Go.Proofs.Ythmldhppmpbadaa.Tr
namespace Go.Proofs.Ythmldhppmpbadaa.Tr
open Go.RowKit Go.Proofs.Ythmldhppmpbadaa.Tx
set_option linter.unusedVariables false
set_option linter.unusedSimpArgs false
section
variable {P : Program} {o : Oper} {a : Act} {w w0 : World} {A : Nat → Prop} {X : Option Nat} {L L' : List Lc} {Rs : List Rw} {Ts : List (List Dt × List Value)} {K : Act → World → Prop} {Q : Exit → Act → World → Prop}
theorem op_store_g (T : TypeId) (x y : Operand) (ho : o.op = .store T x y) {b off : Nat} (hx : a.eval x = .pointer (some ⟨b, off, none⟩)) {us : List Value} (hv : (a.eval y).cells = us.toArray) (hs : (P.info? T).map (·.size) = some us.length) (h1 : us.all (·.oneCell') = true) (H : Cx w0 A X L Rs Ts w) {cs cs' : List Value} {t : TypeId} (hm : ⟨b, cs, t⟩ ∈ L) (hp : PutS off us cs cs') (hu : Upd b cs' L L')
    (h : ∀ w', w.grownBy w' (some b) → Cx w0 A X L' Rs Ts w' → K (a.put o.dst undef) w') : o.wp P a w K Q := by
  refine op_skip (w' := w.setRow b cs'.toArray) ?_ (h _ ⟨rfl, rfl, rfl, by simp, fun k _ hk => setRow_other w b k _ (fun e => hk (by rw [e]))⟩ (H.loc_set hm hu))
  unfold execOp
  simp [ho, hx, Instr.storeAt, Instr.sureAddr, run_store_at H hm hv hs hp h1]
theorem nx_head {b : Nat} {cs : List Value} {t : TypeId} (H : Cx w0 A X (⟨b, cs, t⟩ :: L) Rs Ts w) {p : Lc} (hp : p ∈ L) : NX (some b) p.b := ⟨fun e => (List.pairwise_cons.1 H.dis).1 p hp (by simpa using e.symm)⟩
end
end Go.Proofs.Ythmldhppmpbadaa.Tr
namespace Go.Proofs.Ythmldhppmpbadaa.Tr
open Go.RowKit Go.Proofs.Ythmldhppmpbadaa.Tx
set_option linter.unusedVariables false
set_option linter.unusedSimpArgs false
section
variable {P : Program} {ops : Array Oper} {Q : Exit → Act → World → Prop} {md : Region.Mode} {S : World → Prop} {ls : List Nat}
def wpAnyM (P : Program) (md : Region.Mode) (ops : Array Oper) (Q : Exit → Act → World → Prop) (S : World → Prop) (ls : List Nat) : Nat → Array Bool → Act → World → Prop
  | 0, listed, a, w => Region.ready md ops listed = [] ∧ Q .normal a w
  | fuel + 1, listed, a, w =>
    (Region.ready md ops listed = [] → Q .normal a w) ∧
    ∀ i ∈ Region.ready md ops listed, wpOp P ops Q i (fun a' w' => (ls.contains i = true ∨ S w') ∧ wpAnyM P md ops Q S ls fuel (listed.setIfInBounds i true) a' w') a w
theorem wpAny_of_lasts : ∀ (fuel : Nat) (listed : Array Bool) (a : Act) (w : World), wpAnyM P md ops Q S ls fuel listed a w → wpAny P md ops Q fuel listed a w
  | 0, _, _, _, h => h
  | fuel + 1, _, _, _, h => ⟨h.1, fun i hi => wpOp_mono (fun a' w' h' => wpAny_of_lasts fuel _ a' w' h'.2) (h.2 i hi)⟩
def waitsAll (md : Region.Mode) (ops : Array Oper) (ls : List Nat) (i : Nat) : Bool := ls.all (fun l => waits md ops l i)
theorem wpAnyM_first {i : Nat} {oi : Oper} {v : Value} (hi : ops[i]? = some oi) (hsel : ∀ (j : Nat) (o : Oper) cs b, ops[j]? = some o → o.op ≠ .select cs b)
    (hQ : ∀ c a w, Q (.panic c) (a.put oi.dst v) w → Q (.panic c) a w) (hwt : waitsAll md ops ls i = true) :
    ∀ (fuel : Nat) (listed : Array Bool) (a : Act) (w : World),
      (∀ j oj, ops[j]? = some oj → j ≠ i → listed.getD j true = false → (∀ e ∈ oj.after, Region.binds md e = true → e.on ≠ i) → oi.apart ops oj = true) →
      i ∈ Region.ready md ops listed → YieldsIf P ops S oi v a → S w →
      wpAnyM P md ops Q S ls fuel (listed.setIfInBounds i true) (a.put oi.dst v) w → wpAnyM P md ops Q S ls (fuel + 1) listed a w := by
  intro fuel
  induction fuel with
  | zero =>
    intro listed a w _ hr hy hS H
    refine ⟨fun h => (by rw [h] at hr; cases hr), fun j hj => ?_⟩
    by_cases hji : j = i
    · subst hji; exact hy.wpOp hi hS ⟨.inr hS, H⟩
    · have := ready_mono hj hji
      rw [H.1] at this
      cases this
  | succ fuel ih =>
    intro listed a w hfree hr hy hS H
    refine ⟨fun h => (by rw [h] at hr; cases hr), fun j hj => ?_⟩
    by_cases hji : j = i
    · subst hji; exact hy.wpOp hi hS ⟨.inr hS, H⟩
    · have h1 := H.2 j (ready_mono hj hji)
      obtain ⟨hjun, oj, hoj, hall⟩ := mem_ready.1 hj
      have hnot : ∀ e ∈ oj.after, Region.binds md e = true → e.on ≠ i := fun e he hb heq => by
        have h1 := hall e he hb
        have h0 := (mem_ready.1 hr).1
        rw [heq] at h1
        rcases Nat.lt_or_ge i listed.size with h' | h'
        · simp [h'] at h0 h1; rw [h0] at h1; cases h1
        · simp [Array.getElem?_eq_none h'] at h1
      have hjl : ls.contains j ≠ true := fun e => by
        have hw := List.all_eq_true.1 hwt j (by simpa using e)
        unfold waits at hw
        rw [hoj] at hw
        obtain ⟨e, he, hb⟩ := Array.any_eq_true'.1 hw
        simp only [Bool.and_eq_true, beq_iff_eq] at hb
        exact hnot e he hb.1 hb.2
      have h2 := wpOp_putIf hoj (hfree j oj hoj hji hjun hnot) (fun cs b => hsel i oi cs b hi) (fun cs b => hsel j oj cs b hoj) hQ hy h1
      have hfree' : ∀ k ok, ops[k]? = some ok → k ≠ i → (listed.setIfInBounds j true).getD k true = false →
          (∀ e ∈ ok.after, Region.binds md e = true → e.on ≠ i) → oi.apart ops ok = true := fun k ok hk hki hun hno => by
        refine hfree k ok hk hki ?_ hno
        by_cases hjk : j = k
        · subst hjk; exact hjun
        · rw [getD_set_ne true hjk] at hun; exact hun
      refine wpOp_mono (fun a' w' h3 => ?_) h2
      have hS' : S w' := h3.2.1.resolve_left hjl
      refine ⟨.inr hS', ih (listed.setIfInBounds j true) a' w' hfree' (ready_mono hr (Ne.symm hji)) h3.1 hS' ?_⟩
      rw [Array.setIfInBounds_comm _ _ hji]
      exact h3.2.2
theorem wpAnyM_done {listed : Array Bool} {a : Act} {w : World} (hr : Region.ready md ops listed = []) (h : Q .normal a w) :
    ∀ fuel, wpAnyM P md ops Q S ls fuel listed a w
  | 0 => ⟨hr, h⟩
  | _ + 1 => ⟨fun _ => h, by rw [hr]; simp⟩
def Pl.noRd : Pl → Bool
  | .nil => true
  | .rd _ _ => false
  | .act _ k => k.noRd
  | .fork _ _ _ _ => false
def planM (md : Region.Mode) (ops : Array Oper) (ls : List Nat) : Pl → Array Bool → Bool
  | .nil, listed => (Region.ready md ops listed).isEmpty
  | .rd i k, listed => Region.free md ops listed i && (Region.ready md ops listed).contains i && waitsAll md ops ls i && planM md ops ls k (listed.setIfInBounds i true)
  | .act i k, listed => Region.ready md ops listed == [i] && (!ls.contains i || k.noRd) && planM md ops ls k (listed.setIfInBounds i true)
  | .fork i k j l, listed => Region.ready md ops listed == [i, j] && !ls.contains i && !ls.contains j && k.len == l.len && planM md ops ls k (listed.setIfInBounds i true) && planM md ops ls l (listed.setIfInBounds j true)
def actM (P : Program) (ops : Array Oper) (Q : Exit → Act → World → Prop) (S : World → Prop) (ls : List Nat) (nr : Bool) (i : Nat) (K : Act → World → Prop) (a : Act) (w : World) : Prop := match ops[i]? with
  | none => False
  | some o => ∀ K' : Act → World → Prop, (∀ a w, (nr = true ∨ S w) → K a w → K' a w) → if Region.wanted o (yielded ops a.tmps) = true then Oper.wp P o a w K' Q else K' (a.put o.dst undef) w
def inM (P : Program) (ops : Array Oper) (Q : Exit → Act → World → Prop) (S : World → Prop) (ls : List Nat) : Pl → Act → World → Prop
  | .nil, a, w => Q .normal a w
  | .rd i k, a, w => match ops[i]? with
    | none => False
    | some o => ∃ v, YieldsIf P ops S o v a ∧ inM P ops Q S ls k (a.put o.dst v) w
  | .act i k, a, w => actM P ops Q S ls (ls.contains i) i (inM P ops Q S ls k) a w
  | .fork i k j l, a, w => actM P ops Q S ls false i (inM P ops Q S ls k) a w ∧ actM P ops Q S ls false j (inM P ops Q S ls l) a w
theorem actM_op {i : Nat} {nr : Bool} {K : Act → World → Prop} {listed : Array Bool} {n : Nat} {a : Act} {w : World} (h : actM P ops Q S ls nr i K a w) (hn : nr = true → ls.contains i = true) (hK : ∀ a w, (nr = true ∨ S w) → K a w → wpAnyM P md ops Q S ls n listed a w) : wpOp P ops Q i (fun a' w' => (ls.contains i = true ∨ S w') ∧ wpAnyM P md ops Q S ls n listed a' w') a w := by
  unfold actM at h
  cases ho : ops[i]? with
  | none => rw [ho] at h; exact h.elim
  | some o =>
    rw [ho] at h
    exact wpOp_step ho (fun K' hK' => h K' (fun a w hS hk => hK' a w ⟨hS.imp hn id, hK a w hS hk⟩))
theorem inM_any (hs : Region.noSelect ops = true) (hQ : ∀ c a d v w, Q (.panic c) (Act.put a d v) w → Q (.panic c) a w) : ∀ (l : Pl) (listed : Array Bool) (a : Act) (w : World), planM md ops ls l listed = true →
    (S w ∨ l.noRd = true) → inM P ops Q S ls l a w → wpAnyM P md ops Q S ls l.len listed a w
  | .nil, listed, a, w, hp, _, h => by
    simp only [inM] at h
    simp only [planM, List.isEmpty_iff] at hp
    exact wpAnyM_done hp h 0
  | .rd i k, listed, a, w, hp, hS, h => by
    simp only [inM] at h
    simp only [planM, Bool.and_eq_true] at hp
    have hSw : S w := hS.resolve_right (by simp [Pl.noRd])
    cases ho : ops[i]? with
    | none => rw [ho] at h; exact h.elim
    | some o =>
      rw [ho] at h
      obtain ⟨v, hy, h⟩ := h
      exact wpAnyM_first ho (Region.noSelect_spec hs) (fun c a w hq => hQ c a _ _ w hq) hp.1.2 k.len listed a w (Region.free_spec ho hp.1.1.1) (by simpa using hp.1.1.2) hy hSw (inM_any hs hQ k _ _ w hp.2 (.inl hSw) h)
  | .act i k, listed, a, w, hp, hS, h => by
    simp only [inM] at h
    simp only [planM, Bool.and_eq_true, beq_iff_eq, Bool.or_eq_true, Bool.not_eq_true'] at hp
    obtain ⟨⟨hp1, hp3⟩, hp2⟩ := hp
    refine ⟨fun h0 => (by rw [hp1] at h0; cases h0), fun j hj => ?_⟩
    rw [hp1] at hj
    simp at hj
    subst hj
    refine actM_op h id (fun a' w' hS' hW => inM_any hs hQ k _ a' w' hp2 ?_ hW)
    rcases hS' with e | e
    · exact .inr (hp3.resolve_left (fun h => by rw [h] at e; cases e))
    · exact .inl e
  | .fork i k j l, listed, a, w, hp, hS, h => by
    simp only [inM] at h
    simp only [planM, Bool.and_eq_true, beq_iff_eq, Bool.not_eq_true'] at hp
    obtain ⟨⟨⟨⟨⟨hp1, hi⟩, hj⟩, hl⟩, hk2⟩, hl2⟩ := hp
    refine ⟨fun h0 => (by rw [hp1] at h0; cases h0), fun m hm => ?_⟩
    rw [hp1] at hm
    simp at hm
    rcases hm with rfl | rfl
    · exact actM_op h.1 (by simp) (fun a' w' hS' hW => inM_any hs hQ k _ a' w' hk2 (.inl (hS'.resolve_left (by simp))) hW)
    · have := fun a' w' (hS' : false = true ∨ S w') hW => inM_any hs hQ l (listed.setIfInBounds m true) a' w' hl2 (.inl (hS'.resolve_left (by simp))) hW
      rw [← hl] at this
      exact actM_op h.2 (by simp) this
theorem wp_region_inM {id : Nat} {a : Act} {w : World} (S : World → Prop) (ls : List Nat) (pl : Pl) (hm : P.follows .mixedOrders = true) (hs : Region.noSelect ops = true) (hl : pl.len = ops.size) (hp : planM .any ops ls pl (Array.replicate ops.size false) = true)
    (hQ : ∀ c a d v w, Q (.panic c) (Act.put a d v) w → Q (.panic c) a w) (hS : S w.drew)
    (h : inM P ops Q S ls pl a w.drew) : (Code.region id ops true).wp P Q a w := by
  have := inM_any (md := .any) hs hQ pl _ a w.drew hp (.inl hS) h
  rw [hl] at this
  exact wp_region_any hm (wpAny_of_lasts (S := S) (ls := ls) _ _ _ _ this)
variable {i j : Nat} {k l : Pl} {a : Act} {w : World} {o : Oper} {v : Value}
theorem inM_read (ho : ops[i]? = some o) (hy : YieldsIf P ops S o v a) (h : inM P ops Q S ls k (a.put o.dst v) w) : inM P ops Q S ls (.rd i k) a w := by
  simp only [inM, ho]
  exact ⟨v, hy, h⟩
theorem inM_act (ho : ops[i]? = some o) (hw : Region.wanted o (yielded ops a.tmps) = true) (h : ∀ K' : Act → World → Prop, (∀ a w, (ls.contains i = true ∨ S w) → inM P ops Q S ls k a w → K' a w) → Oper.wp P o a w K' Q) : inM P ops Q S ls (.act i k) a w := by
  simp only [inM, actM, ho, hw, if_true]
  exact h
theorem inM_fork {o' : Oper} (ho : ops[i]? = some o) (hw : Region.wanted o (yielded ops a.tmps) = true) (ho' : ops[j]? = some o') (hw' : Region.wanted o' (yielded ops a.tmps) = true)
    (h : ∀ K' : Act → World → Prop, (∀ a w, (false = true ∨ S w) → inM P ops Q S ls k a w → K' a w) → Oper.wp P o a w K' Q) (h' : ∀ K' : Act → World → Prop, (∀ a w, (false = true ∨ S w) → inM P ops Q S ls l a w → K' a w) → Oper.wp P o' a w K' Q) : inM P ops Q S ls (.fork i k j l) a w := by
  simp only [inM, actM, ho, hw, ho', hw', if_true]
  exact ⟨h, h'⟩
theorem inM_end (h : Q .normal a w) : inM P ops Q S ls .nil a w := h
end
end Go.Proofs.Ythmldhppmpbadaa.Tr
namespace Go.Proofs.Ythmldhppmpbadaa.Mp
open Go.RowKit Go.Maps
set_option linter.unusedVariables false
set_option linter.unusedSimpArgs false

theorem revInd {α : Type} {motive : List α → Prop} (nil : motive []) (snoc : ∀ l p, motive l → motive (l ++ [p])) (l : List α) : motive l := by
  have : ∀ r : List α, motive r.reverse := by
    intro r
    induction r with
    | nil => exact nil
    | cons a r ih => rw [List.reverse_cons]; exact snoc _ _ ih
  simpa using this l.reverse
def RV (v : Value) : Option (DataW Value × List MemPlace) := some (.held v, [])
def klD (P : Program) (K : TypeId) (v : Value) : Lit := (keyOf P K v).getD (.bool false)
def putD (P : Program) (K : TypeId) (l : List (Value × Value)) : DataW Value := l.foldl (fun D p => D.put (klD P K p.1) (.held p.2)) (.map [])
theorem putD_snoc {P : Program} (K : TypeId) (l : List (Value × Value)) (p : Value × Value) : putD P K (l ++ [p]) = (putD P K l).put (klD P K p.1) (.held p.2) := by simp [putD, List.foldl_append]
def IsK (P : Program) (K : TypeId) (v : Value) : Prop := ∃ kl, keyOf P K v = some kl
theorem IsK.at {P : Program} {K : TypeId} {v : Value} (h : IsK P K v) : keyOf P K v = some (klD P K v) := by
  obtain ⟨kl, h⟩ := h
  rw [klD, h]; rfl
structure MapL (P : Program) (K : TypeId) (w : World) (b : Nat) (l : List (Value × Value)) : Prop where
  keys : ∀ p ∈ l, IsK P K p.1
  own : w.ownsMap P K RV b l.length (putD P K l)
theorem MapL.made {P : Program} (K : TypeId) (w : World) : MapL P K (w.alloc (.map #[] 0)) w.heap.size [] := ⟨by simp, World.ownsMap_made _ _ _ _⟩
theorem MapL.kept {P : Program} {K : TypeId} {w w' : World} {b : Nat} {l : List (Value × Value)} (h : MapL P K w b l) {row : Option Nat} (hg : w.grownBy w' row) (hne : some b ≠ row) : MapL P K w' b l := ⟨h.keys, h.own.kept hg hne⟩
theorem MapL.lt {P : Program} {K : TypeId} {w : World} {b : Nat} {l : List (Value × Value)} (h : MapL P K w b l) : b < w.heap.size := h.own.lt
theorem MapL.update {P : Program} {K T E : TypeId} (LK : Keyed P K) (ht : P.underlying T = some (.map K E)) {w : World} {b : Nat} {l : List (Value × Value)} (h : MapL P K w b l) (hn : l.length < 1000000) {key val : Value} (hk : IsK P K key) :
    ∃ w', (Instr.mapUpdate T (.map (some b)) key val).run P w = .ok () w' ∧ MapL P K w' b (l ++ [(key, val)]) ∧ w.grownBy w' (some b) := by
  obtain ⟨w', h1, h2, h3⟩ := h.own.update LK ht (Nat.lt_trans hn (by unfold maxLen; decide)) hk.at (show RV val = some (.held val, []) from rfl)
  refine ⟨w', h1, ⟨?_, ?_⟩, h3⟩
  · intro p hp
    rcases List.mem_append.1 hp with hp | hp
    · exact h.keys p hp
    · simp at hp; subst hp; exact hk
  · rw [putD_snoc]
    simpa using h2
theorem putD_isMap {P : Program} (K : TypeId) (l : List (Value × Value)) : IsMap (putD P K l) := by
  have : ∀ (l : List (Value × Value)) (D : DataW Value), IsMap D → IsMap (l.foldl (fun D p => D.put (klD P K p.1) (.held p.2)) D) := by
    intro l
    induction l with
    | nil => intro D h; exact h
    | cons p l ih => intro D h; exact ih _ (h.put _ _)
  exact this l _ isMap_empty
theorem kl_ne {P : Program} {K : TypeId} (LK : Keyed P K) {a b : Value} (ha : IsK P K a) (hb : IsK P K b) (h : a ≠ b) : klD P K a ≠ klD P K b := fun e => h (LK.inj ha.at (by rw [e]; exact hb.at))
theorem putD_miss {P : Program} {K : TypeId} (LK : Keyed P K) {key : Value} (hk : IsK P K key) : ∀ (l : List (Value × Value)), (∀ p ∈ l, IsK P K p.1) → (∀ p ∈ l, p.1 ≠ key) → has (putD P K l) (klD P K key) = false := by
  intro l
  induction l using revInd with
  | nil => intro _ _; rfl
  | snoc l p ih =>
    intro h1 h2
    rw [putD_snoc, has_put_other (kl_ne LK hk (h1 p (by simp)) (h2 p (by simp)).symm)]
    exact ih (fun q hq => h1 q (by simp [hq])) (fun q hq => h2 q (by simp [hq]))
theorem putD_hit {P : Program} {K : TypeId} (LK : Keyed P K) {key v : Value} (hk : IsK P K key) : ∀ (l : List (Value × Value)), (∀ p ∈ l, IsK P K p.1) → (key, v) ∈ l → (∀ p ∈ l, p.1 = key → p.2 = v) → has (putD P K l) (klD P K key) = true ∧ ∀ z, (putD P K l).atKey (klD P K key) z = .held v := by
  intro l
  induction l using revInd with
  | nil => intro _ h; cases h
  | snoc l p ih =>
    intro h1 h2 h3
    rw [putD_snoc]
    by_cases e : p.1 = key
    · have hv := h3 p (by simp) e
      rw [e, hv]
      exact ⟨has_put_same (putD_isMap K l) (LK.key hk.at) _, fun z => atKey_put_same (putD_isMap K l) (LK.key hk.at) _ z⟩
    · have hne := kl_ne LK hk (h1 p (by simp)) (fun x => e x.symm)
      have hm : (key, v) ∈ l := by
        rcases List.mem_append.1 h2 with h | h
        · exact h
        · simp at h; subst h; exact absurd rfl e
      rw [has_put_other hne]
      obtain ⟨a, b⟩ := ih (fun q hq => h1 q (by simp [hq])) hm (fun q hq => h3 q (by simp [hq]))
      exact ⟨a, fun z => by rw [atKey_put_other hne]; exact b z⟩
theorem MapL.look {P : Program} {K T E : TypeId} (LK : Keyed P K) (ht : P.underlying T = some (.map K E)) {z : Value} {w : World} (hz : (zeroValue E).run P w = .ok z w) {b : Nat} {l : List (Value × Value)} (h : MapL P K w b l) {key v : Value} (hk : IsK P K key) (hm : (key, v) ∈ l) (hu : ∀ p ∈ l, p.1 = key → p.2 = v) :
    (Instr.lookup T (.map (some b)) key false).run P w = .ok v w := by
  obtain ⟨v', ps, hr, hv⟩ := h.own.lookup LK ht hz (show RV z = some (.held z, []) from rfl) hk.at
  rw [(putD_hit LK hk l h.keys hm hu).2] at hv
  simp [RV] at hv
  rw [hr, hv.1]
theorem MapL.look_ok {P : Program} {K T E : TypeId} (LK : Keyed P K) (ht : P.underlying T = some (.map K E)) {z : Value} {w : World} (hz : (zeroValue E).run P w = .ok z w) {b : Nat} {l : List (Value × Value)} (h : MapL P K w b l) {key v : Value} (hk : IsK P K key) (hm : (key, v) ∈ l) (hu : ∀ p ∈ l, p.1 = key → p.2 = v) :
    (Instr.lookup T (.map (some b)) key true).run P w = .ok (.tuple #[v, .bool true]) w := by
  obtain ⟨v', ps, hr, hv⟩ := h.own.look_ok LK ht hz (show RV z = some (.held z, []) from rfl) hk.at
  have hh := putD_hit LK hk l h.keys hm hu
  rw [hh.2] at hv
  simp [RV] at hv
  rw [hr, hv.1, hh.1]
theorem MapL.look_no {P : Program} {K T E : TypeId} (LK : Keyed P K) (ht : P.underlying T = some (.map K E)) {z : Value} {w : World} (hz : (zeroValue E).run P w = .ok z w) {b : Nat} {l : List (Value × Value)} (h : MapL P K w b l) {key : Value} (hk : IsK P K key) (hm : ∀ p ∈ l, p.1 ≠ key) :
    (Instr.lookup T (.map (some b)) key true).run P w = .ok (.tuple #[z, .bool false]) w := by
  obtain ⟨v', ps, hr, hv⟩ := h.own.look_ok LK ht hz (show RV z = some (.held z, []) from rfl) hk.at
  have hh := putD_miss LK hk l h.keys hm
  rw [atKey_of_not_has hh] at hv
  simp [RV] at hv
  rw [hr, hv.1, hh]
end Go.Proofs.Ythmldhppmpbadaa.Mp
namespace Go.Proofs.Ythmldhppmpbadaa.Tr
open Go.RowKit Go.Proofs.Ythmldhppmpbadaa.Tx
set_option linter.unusedVariables false
set_option linter.unusedSimpArgs false

structure Fk where
  b : Nat
  P : World → Prop
def Stab (b : Nat) (P : World → Prop) : Prop := ∀ (w w' : World) (row : Option Nat), w.grownBy w' row → some b ≠ row → P w → P w'
structure Cf (w0 : World) (A : Nat → Prop) (X : Option Nat) (L : List Lc) (Rs : List Rw) (Fs : List Fk) (W : World) : Prop where
  cx : Cx w0 A X L Rs [] W
  fs : ∀ q ∈ Fs, q.P W
  st : ∀ q ∈ Fs, Stab q.b q.P
  lt : ∀ q ∈ Fs, q.b < W.heap.size
  ne : ∀ q ∈ Fs, ∀ p ∈ L, p.b ≠ q.b
  nr : ∀ q ∈ Fs, ∀ r ∈ Rs, r.v.ownBlock ≠ some q.b
  old : ∀ q ∈ Fs, w0.heap.size ≤ q.b ∨ X = some q.b
  dis : Fs.Pairwise (fun p q => p.b ≠ q.b)
section
variable {P : Program} {ops : Array Oper} {rest : List Oper} {o : Oper} {a : Act} {w w0 : World} {Q : Exit → Act → World → Prop}
  {A : Nat → Prop} {X : Option Nat} {L L' : List Lc} {Rs Rs' : List Rw} {Fs : List Fk}
theorem Cf.of (H : Cx w0 A X L Rs [] w) : Cf w0 A X L Rs [] w := ⟨H, by simp, by simp, by simp, by simp, by simp, by simp, List.Pairwise.nil⟩
/- The world turns outside the facts' blocks. -/
theorem Cf.step {w' : World} {row : Option Nat} (H : Cf w0 A X L Rs Fs w) (hc : Cx w0 A X L' Rs' [] w') (hg : w.grownBy w' row) (hr : ∀ q ∈ Fs, some q.b ≠ row) (hl : ∀ q ∈ Fs, ∀ p ∈ L', p.b ≠ q.b) (hn : ∀ q ∈ Fs, ∀ r ∈ Rs', r.v.ownBlock ≠ some q.b) : Cf w0 A X L' Rs' Fs w' :=
  ⟨hc, fun q hq => H.st q hq _ _ _ hg (hr q hq) (H.fs q hq), H.st, fun q hq => Nat.lt_of_lt_of_le (H.lt q hq) hg.size, hl, hn, H.old, H.dis⟩
theorem Cf.g {w' : World} (H : Cf w0 A X L Rs Fs w) (hg : w.grownBy w' none) : Cf w0 A X L Rs Fs w' := H.step (H.cx.g hg) hg (by simp) H.ne H.nr
theorem Cf.drop {q : Lc} (H : Cf w0 A X (q :: L) Rs Fs w) : Cf w0 A X L Rs Fs w := ⟨H.cx.drop, H.fs, H.st, H.lt, fun f hf p hp => H.ne f hf p (.tail _ hp), H.nr, H.old, H.dis⟩
theorem cf_alloc (hgd : o.guard = none) (T : TypeId) (ho : o.op = .alloc T) (zs : List Value) (hz : (P.info? T).bind (fun i => i.zero.map (·.cells)) = some zs.toArray) (H : Cf w0 A X L Rs Fs w)
    (h : ∀ b w', NX X b → Cf w0 A X (⟨b, zs, T⟩ :: L) Rs Fs w' → wpList P ops Q rest (a.put o.dst (.pointer (some ⟨b, 0, none⟩))) w') : wpList P ops Q (o :: rest) a w := by
  cases hi : P.info? T with
  | none => simp [hi] at hz
  | some i =>
    cases hzz : i.zero with
    | none => simp [hi, hzz] at hz
    | some z =>
      simp [hi, hzz] at hz
      refine wl_val (w' := w.alloc (.cells zs.toArray T)) hgd ?_ (h w.heap.size _ H.cx.nx (H.step (H.cx.loc_new zs T) (World.grownBy_alloc w _ none) (by simp) (fun q hq p hp => ?_) H.nr))
      · unfold execOp
        simp [ho, Instr.alloc, zeroValue, typeInfo, hi, hzz, newVar, newRow, hz]
      · rcases List.mem_cons.1 hp with rfl | hp
        · have := H.lt q hq; simp only; omega
        · exact H.ne q hq p hp
theorem cf_box (hgd : o.guard = none) (T : TypeId) (x : Operand) (ho : o.op = .box T x) (cs : List Value) (hx : (a.eval x).cells = cs.toArray) (H : Cf w0 A X L Rs Fs w)
    (h : ∀ b w', NX X b → Cf w0 A X (⟨b, cs, T⟩ :: L) Rs Fs w' → wpList P ops Q rest (a.put o.dst (.pointer (some ⟨b, 0, none⟩))) w') : wpList P ops Q (o :: rest) a w := by
  refine wl_val (w' := w.alloc (.cells cs.toArray T)) hgd ?_ (h w.heap.size _ H.cx.nx (H.step (H.cx.loc_new cs T) (World.grownBy_alloc w _ none) (by simp) (fun q hq p hp => ?_) H.nr))
  · unfold execOp
    simp [ho, Instr.box, newVar, newRow, hx]
  · rcases List.mem_cons.1 hp with rfl | hp
    · have := H.lt q hq; simp only; omega
    · exact H.ne q hq p hp
theorem Cf.set {b : Nat} {cs cs' : List Value} {t : TypeId} (H : Cf w0 A X L Rs Fs w) (hm : ⟨b, cs, t⟩ ∈ L) (hu : Upd b cs' L L') : Cf w0 A X L' Rs Fs (w.setRow b cs'.toArray) :=
  H.step (H.cx.loc_set hm hu) (row := some b) ⟨rfl, rfl, rfl, by simp, fun k _ hk => setRow_other w b k _ (fun e => hk (by rw [e]))⟩ (fun q hq e => H.ne q hq _ hm (by simpa using e.symm)) (fun q hq => mem_blocks (P := fun c => c ≠ q.b) hu.map (H.ne q hq)) H.nr
theorem cf_store (hgd : o.guard = none) (T : TypeId) (x y : Operand) (ho : o.op = .store T x y) {b off : Nat} (hx : a.eval x = .pointer (some ⟨b, off, none⟩)) {us : List Value} (hv : (a.eval y).cells = us.toArray) (hs : (P.info? T).map (·.size) = some us.length) (h1 : us.all (·.oneCell') = true) (H : Cf w0 A X L Rs Fs w) {cs cs' : List Value} {t : TypeId} (hm : ⟨b, cs, t⟩ ∈ L) (hp : PutS off us cs cs') (hu : Upd b cs' L L')
    (h : ∀ w', Cf w0 A X L' Rs Fs w' → wpList P ops Q rest (a.put o.dst undef) w') : wpList P ops Q (o :: rest) a w := by
  refine wl_skip (w' := w.setRow b cs'.toArray) hgd ?_ (h _ (H.set hm hu))
  unfold execOp
  simp [ho, hx, Instr.storeAt, Instr.sureAddr, run_store_at H.cx hm hv hs hp h1]
/- One block's fact turns. -/
theorem Cf.turn {w' : World} {b : Nat} {p p' : World → Prop} {Fs' : List Fk} (H : Cf w0 A X L Rs (⟨b, p⟩ :: Fs) w) (hg : w.grownBy w' (some b)) (hp : p' w') (hs : Stab b p') : Cf w0 A X L Rs (⟨b, p'⟩ :: Fs) w' := by
  have hne := fun q (hq : q ∈ Fs) => (List.pairwise_cons.1 H.dis).1 q hq
  have hc : Cx w0 A X L Rs [] w' := {
    grown := grown_then H.cx.grown hg (fun y e => by cases e; exact (H.old _ (.head _)).symm)
    loc := fun q hq => by rw [hg.block q.b (H.cx.lt hq) (fun e => H.ne _ (.head _) q hq (by simpa using e))]; exact H.cx.loc q hq
    old := H.cx.old
    dis := H.cx.dis
    row := fun r hr => (H.cx.row r hr).kept hg (by
      cases hv : r.v.ownBlock with
      | none => exact .inl rfl
      | some g => exact .inr (fun e => H.nr _ (.head _) r hr (by rw [hv]; exact e)))
    rl := H.cx.rl
    rr := H.cx.rr
    tr := by simp
    xx := H.cx.xx }
  refine ⟨hc, fun q hq => ?_, fun q hq => ?_, fun q hq => ?_, fun q hq => ?_, fun q hq => ?_, fun q hq => ?_, List.pairwise_cons.2 ⟨hne, (List.pairwise_cons.1 H.dis).2⟩⟩
  · rcases List.mem_cons.1 hq with rfl | hq
    · exact hp
    · exact H.st q (.tail _ hq) _ _ _ hg (fun e => hne q hq (by simpa using e.symm)) (H.fs q (.tail _ hq))
  · rcases List.mem_cons.1 hq with rfl | hq
    · exact hs
    · exact H.st q (.tail _ hq)
  · rcases List.mem_cons.1 hq with rfl | hq
    · exact Nat.lt_of_lt_of_le (H.lt ⟨b, p⟩ (.head _)) hg.size
    · exact Nat.lt_of_lt_of_le (H.lt q (.tail _ hq)) hg.size
  · rcases List.mem_cons.1 hq with rfl | hq
    · exact H.ne ⟨b, p⟩ (.head _)
    · exact H.ne q (.tail _ hq)
  · rcases List.mem_cons.1 hq with rfl | hq
    · exact H.nr ⟨b, p⟩ (.head _)
    · exact H.nr q (.tail _ hq)
  · rcases List.mem_cons.1 hq with rfl | hq
    · exact H.old ⟨b, p⟩ (.head _)
    · exact H.old q (.tail _ hq)
/- Two facts change places. -/
theorem Cf.swap {p q : Fk} (H : Cf w0 A X L Rs (p :: q :: Fs) w) : Cf w0 A X L Rs (q :: p :: Fs) w := by
  have hm : ∀ f, f ∈ q :: p :: Fs → f ∈ p :: q :: Fs := fun f hf => by
    rcases List.mem_cons.1 hf with rfl | hf
    · exact .tail _ (.head _)
    · rcases List.mem_cons.1 hf with rfl | hf
      · exact .head _
      · exact .tail _ (.tail _ hf)
  obtain ⟨h1, h2⟩ := List.pairwise_cons.1 H.dis
  obtain ⟨h3, h4⟩ := List.pairwise_cons.1 h2
  exact ⟨H.cx, fun f hf => H.fs f (hm f hf), fun f hf => H.st f (hm f hf), fun f hf => H.lt f (hm f hf), fun f hf => H.ne f (hm f hf), fun f hf => H.nr f (hm f hf), fun f hf => H.old f (hm f hf),
    List.pairwise_cons.2 ⟨fun f hf => by
      rcases List.mem_cons.1 hf with rfl | hf
      · exact (h1 q (.head _)).symm
      · exact h3 f hf, List.pairwise_cons.2 ⟨fun f hf => h1 f (.tail _ hf), h4⟩⟩⟩
/- A new block with its fact. -/
theorem Cf.new {ob : Obj} {p : World → Prop} (H : Cf w0 A X L Rs Fs w) (hp : p (w.alloc ob)) (hs : Stab w.heap.size p) : Cf w0 A X L Rs (⟨w.heap.size, p⟩ :: Fs) (w.alloc ob) := by
  have H' := H.g (World.grownBy_alloc w ob none)
  have hsz : w.heap.size < (w.alloc ob).heap.size := (Array.getElem?_eq_some_iff.1 (heap_alloc_new w ob)).1
  refine ⟨H'.cx, fun q hq => ?_, fun q hq => ?_, fun q hq => ?_, fun q hq => ?_, fun q hq => ?_, fun q hq => ?_, List.pairwise_cons.2 ⟨fun q hq e => ?_, H.dis⟩⟩
  · rcases List.mem_cons.1 hq with rfl | hq
    · exact hp
    · exact H'.fs q hq
  · rcases List.mem_cons.1 hq with rfl | hq
    · exact hs
    · exact H.st q hq
  · rcases List.mem_cons.1 hq with rfl | hq
    · exact hsz
    · exact H'.lt q hq
  · rcases List.mem_cons.1 hq with rfl | hq
    · intro l hl e
      have := H.cx.lt hl
      simp only at e
      omega
    · exact H.ne q hq
  · rcases List.mem_cons.1 hq with rfl | hq
    · intro r hr e
      have := ((H.cx.row r hr).lt _ e).2
      simp only at this
      omega
    · exact H.nr q hq
  · rcases List.mem_cons.1 hq with rfl | hq
    · exact .inl H.cx.grown.size
    · exact H.old q hq
  · have := H.lt q hq
    simp only at e
    omega
/- A fact of a block that was there. -/
theorem Cf.take {b : Nat} {p : World → Prop} (H : Cf w0 A (some b) [] [] [] w) (hp : p w) (hs : Stab b p) (hb : b < w.heap.size) : Cf w0 A (some b) [] [] [⟨b, p⟩] w :=
  ⟨H.cx, fun q hq => by rw [List.mem_singleton] at hq; subst hq; exact hp, fun q hq => by rw [List.mem_singleton] at hq; subst hq; exact hs, fun q hq => by rw [List.mem_singleton] at hq; subst hq; exact hb, by simp, by simp, fun q hq => by rw [List.mem_singleton] at hq; subst hq; exact .inr rfl, List.pairwise_singleton _ _⟩
theorem cx_x (w : World) (A : Nat → Prop) {b : Nat} (hb : b < w.heap.size) : Cx w A (some b) [] [] [] w :=
  ⟨grown_refl w _, by simp, by simp, List.Pairwise.nil, by simp, by simp, List.Pairwise.nil, by simp, fun x e => by cases e; exact hb⟩
theorem at_mkmap {ops : Array Oper} {rest : List Oper} (T : TypeId) {x : Option Operand} (_ : o.op = .makeMap T x) (h : wpList P ops Q (o :: rest) a w) : wpList P ops Q (o :: rest) a w := h
end
end Go.Proofs.Ythmldhppmpbadaa.Tr
namespace Go.Proofs.Ythmldhppmpbadaa.Tr
open Go.RowKit Go.Proofs.Ythmldhppmpbadaa.Tx
set_option linter.unusedVariables false
set_option linter.unusedSimpArgs false

theorem run_gtr (P : Program) (T : TypeId) {m n : Int} (w : World) : (binOp .gtr T (.int .i64 m) (.int .i64 n)).run P w = .ok (.bool (decide (n < m))) w := by
  simp [go_sem, binOp]
theorem eqg_gtr (P : Program) (T : TypeId) (x y : Operand) (m n : Value) (w : World) : (eqGuard .gtr T x y m n).run P w = .ok () w := by
  simp [eqGuard, go_sem]
/- A test whose answer is known, told as it is: what it guards is seen by the walk. -/
theorem wl_gtr {P : Program} {ops : Array Oper} {rest : List Oper} {o : Oper} {a : Act} {w : World} {Q : Exit → Act → World → Prop} (hgd : o.guard = none) {T U : TypeId} {x y : Operand} (ho : o.op = .binOp .gtr T x y U) {m n : Int} (hx : a.eval x = .int .i64 m) (hy : a.eval y = .int .i64 n) {r : Bool} (hr : decide (n < m) = r)
    (h : wpList P ops Q rest (a.put o.dst (.bool r)) w) : wpList P ops Q (o :: rest) a w := by
  refine wl_val hgd ?_ h
  unfold execOp
  simp only [ho, hx, hy]
  simp [eqg_gtr, run_gtr, hr]
/- An operation whose guard says yes, taken as one without a guard. -/
theorem wl_unguard {P : Program} {ops : Array Oper} {rest : List Oper} {o : Oper} {a : Act} {w : World} {Q : Exit → Act → World → Prop} (hg : o.guard.isSome = true) (hw : Region.wanted o (yielded ops a.tmps) = true) (h : wpList P ops Q ({ o with guard := none } :: rest) a w) : wpList P ops Q (o :: rest) a w := by
  obtain ⟨d, op, ty, ps, af, g⟩ := o
  dsimp only at h
  unfold wpList at h ⊢
  rw [if_pos hw]
  rw [if_pos (show Region.wanted (⟨d, op, ty, ps, af, none⟩ : Oper) (yielded ops a.tmps) = true from rfl)] at h
  exact h
end Go.Proofs.Ythmldhppmpbadaa.Tr
