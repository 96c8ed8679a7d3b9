/-
  Texts as lists of bytes: decimal numbers, registers, a text cut at another one; what is read back.
-/
import Derived.Laws.Concat
namespace Go.Proofs.Ytmoekalagollhaa.Tx
set_option linter.unusedVariables false

def bs (l : List UInt8) : ByteArray := ⟨l.toArray⟩
theorem bs_size (l : List UInt8) : (bs l).size = l.length := rfl
theorem bs_append (a b : List UInt8) : bs a ++ bs b = bs (a ++ b) := ByteArray.mk_append_mk a b
theorem bs_inj {a b : List UInt8} (h : bs a = bs b) : a = b := by
  have := congrArg (fun z : ByteArray => z.data.toList) h
  simpa [bs] using this
theorem bs_of (s : ByteArray) : bs s.data.toList = s := by simp [bs]
theorem bs_eq (a b : List UInt8) : (bs a = bs b) ↔ a = b := ⟨bs_inj, fun h => by rw [h]⟩

/- Decimal digits. -/
def dg (n : Nat) : UInt8 := UInt8.ofNat (48 + n)
theorem dg_val {n : Nat} (h : n < 10) : (dg n).toNat = 48 + n := by simp [dg]; omega
def decF : Nat → Nat → List UInt8
  | 0, _ => []
  | k + 1, n => if n < 10 then [dg n] else decF k (n / 10) ++ [dg (n % 10)]
theorem decF_more (k : Nat) : ∀ n, n < 10 ^ (k + 1) → decF (k + 2) n = decF (k + 1) n := by
  induction k with
  | zero => intro n h; simp at h; simp [decF, h]
  | succ k ih =>
    intro n h
    by_cases h1 : n < 10
    · rw [decF, if_pos h1, decF, if_pos h1]
    · rw [decF, if_neg h1, ih (n / 10) (by rw [Nat.pow_succ] at h; omega)]
      rw [show decF (k + 1 + 1) n = if n < 10 then [dg n] else decF (k + 1) (n / 10) ++ [dg (n % 10)] from rfl, if_neg h1]
theorem decF_le (k j n : Nat) (h : n < 10 ^ (k + 1)) : decF (k + 1 + j) n = decF (k + 1) n := by
  induction j with
  | zero => rfl
  | succ j ih =>
    rw [← ih]
    have : n < 10 ^ (k + j + 1) := Nat.lt_of_lt_of_le h (Nat.pow_le_pow_right (by decide) (by omega))
    have := decF_more (k + j) n this
    rw [show k + 1 + (j + 1) = k + j + 2 by omega, show k + 1 + j = k + j + 1 by omega]
    exact this
def decN (n : Nat) : List UInt8 := decF 12 n
theorem decN_lo {n : Nat} (h : n < 10) : decN n = [dg n] := by rw [decN, decF, if_pos h]
theorem decN_hi {n : Nat} (h : ¬ n < 10) (h1 : n < 1000000000000) : decN n = decN (n / 10) ++ [dg (n % 10)] := by
  rw [decN, decF, if_neg h, decN, show (12 : Nat) = 10 + 1 + 1 from rfl, decF_le 10 1 (n / 10) (by show n / 10 < 100000000000; omega)]
theorem decF_len (k : Nat) : ∀ n, (decF k n).length ≤ k := by
  induction k with
  | zero => intro n; simp [decF]
  | succ k ih =>
    intro n
    rw [decF]
    split
    · simp
    · have := ih (n / 10)
      simp; omega
theorem decN_len (n : Nat) : (decN n).length ≤ 12 := decF_len 12 n
def decI (n : Int) : List UInt8 := if n < 0 then 45 :: decN (-n).toNat else decN n.toNat
theorem decI_le (n : Int) : (decI n).length ≤ 13 := by
  have h1 := decN_len (-n).toNat
  have h2 := decN_len n.toNat
  unfold decI
  split
  · simp; omega
  · omega
def isD (c : UInt8) : Bool := decide (48 ≤ c.toNat) && decide (c.toNat ≤ 57)
def valL (l : List UInt8) : Nat := l.foldl (fun n c => 10 * n + (c.toNat - 48)) 0
theorem valL_snoc (l : List UInt8) (c : UInt8) : valL (l ++ [c]) = 10 * valL l + (c.toNat - 48) := by simp [valL, List.foldl_append]
theorem dec_facts (k : Nat) : ∀ n, n < 10 ^ (k + 1) → valL (decF (k + 1) n) = n ∧ (decF (k + 1) n).all isD = true ∧ 1 ≤ (decF (k + 1) n).length ∧ (decF (k + 1) n).length ≤ k + 1 := by
  have one : ∀ n, n < 10 → valL [dg n] = n ∧ isD (dg n) = true := fun n h => by
    have := dg_val h
    constructor
    · simp [valL, this]
    · simp [isD, this]; omega
  induction k with
  | zero =>
    intro n h
    have h1 : n < 10 := by simpa using h
    rw [decF, if_pos h1]
    exact ⟨(one n h1).1, by simp [(one n h1).2], by simp, by simp⟩
  | succ k ih =>
    intro n h
    by_cases h1 : n < 10
    · rw [decF, if_pos h1]
      exact ⟨(one n h1).1, by simp [(one n h1).2], by simp, by simp⟩
    · obtain ⟨a, b, c, d⟩ := ih (n / 10) (by rw [Nat.pow_succ] at h; omega)
      have hm : n % 10 < 10 := Nat.mod_lt _ (by decide)
      rw [decF, if_neg h1]
      refine ⟨?_, ?_, ?_, ?_⟩
      · rw [valL_snoc, a, dg_val hm]; omega
      · simp only [List.all_append, b, List.all_cons, (one _ hm).2, List.all_nil, Bool.and_true]
      · simp
      · simp; omega
theorem decN_at {n k : Nat} (hk : k < 12) (h : n < 10 ^ (k + 1)) : decN n = decF (k + 1) n := by
  have := decF_le k (11 - k) n h
  rw [decN, ← this]
  congr 1
  omega
theorem decN_facts {n : Nat} (h : n < 1000000000) : valL (decN n) = n ∧ (decN n).all isD = true ∧ 1 ≤ (decN n).length ∧ (decN n).length ≤ 9 := by
  rw [decN_at (k := 8) (by decide) h]
  exact dec_facts 8 n h

/- A text cut at the first place of another one. -/
def cutF (d : List UInt8) : List UInt8 → Option (List UInt8 × List UInt8)
  | [] => if d = [] then some ([], []) else none
  | c :: s => if d.isPrefixOf (c :: s) = true then some ([], (c :: s).drop d.length) else (cutF d s).map fun p => (c :: p.1, p.2)
def cut1 (s d : List UInt8) : List UInt8 := match cutF d s with | some p => p.1 | none => s
def cut2 (s d : List UInt8) : List UInt8 := match cutF d s with | some p => p.2 | none => []
def cutB (s d : List UInt8) : Bool := (cutF d s).isSome
theorem cutF_at (x : UInt8) (d' : List UInt8) : ∀ (p t : List UInt8), x ∉ p → cutF (x :: d') (p ++ (x :: d') ++ t) = some (p, t)
  | [], t, _ => by
    show cutF (x :: d') (x :: (d' ++ t)) = _
    rw [cutF, if_pos (by simp)]
    simp
  | c :: p, t, h => by
    simp only [List.mem_cons, not_or] at h
    show cutF (x :: d') (c :: (p ++ (x :: d') ++ t)) = _
    rw [cutF, if_neg (by simp [h.1]), cutF_at x d' p t h.2]
    rfl
theorem cutF_no (x : UInt8) (d' : List UInt8) : ∀ (p : List UInt8), x ∉ p → cutF (x :: d') p = none
  | [], _ => by simp [cutF]
  | c :: p, h => by
    simp only [List.mem_cons, not_or] at h
    rw [cutF, if_neg (by simp [h.1]), cutF_no x d' p h.2]
    rfl

/- A number, a register. -/
def negB (s : List UInt8) : Bool := s.head? == some 45
def digs (s : List UInt8) : List UInt8 := if negB s = true then s.tail else s
def numI (s : List UInt8) : Int := if negB s = true then -(valL (digs s) : Int) else (valL (digs s) : Int)
def numA (s : List UInt8) : Bool := decide (1 ≤ (digs s).length) && decide ((digs s).length ≤ 9) && (digs s).all isD
def numB (s : List UInt8) : Bool := numA s && (decI (numI s) == s)
def numV (s : List UInt8) : Int := if numA s = true then numI s else 0
theorem dig_ne {l : List UInt8} (h : l.all isD = true) (x : UInt8) (hx : isD x = false) : x ∉ l := fun m => by
  have := List.all_eq_true.1 h x m
  rw [hx] at this
  cases this
theorem neg_dig {l : List UInt8} (h : l.all isD = true) : negB l = false := by
  cases l with
  | nil => rfl
  | cons c l =>
    have : isD c = true := by simp at h; exact h.1
    have n : c ≠ 45 := by rintro rfl; simp [isD] at this
    simp [negB, n]
theorem num_dec {n : Int} (h0 : -1000000000 < n) (h1 : n < 1000000000) : numA (decI n) = true ∧ numI (decI n) = n ∧ numB (decI n) = true ∧ numV (decI n) = n := by
  have key : numA (decI n) = true ∧ numI (decI n) = n := by
    by_cases h : n < 0
    · obtain ⟨a, b, c, d⟩ := decN_facts (n := (-n).toNat) (by omega)
      have e : decI n = 45 :: decN (-n).toNat := by rw [decI, if_pos h]
      have g : negB (decI n) = true := by rw [e]; rfl
      have t : digs (decI n) = decN (-n).toNat := by rw [digs, if_pos g, e]; rfl
      refine ⟨by simp only [numA, t, b, Bool.and_true, Bool.and_eq_true, decide_eq_true_eq]; exact ⟨c, d⟩, ?_⟩
      rw [numI, if_pos g, t, a]; omega
    · obtain ⟨a, b, c, d⟩ := decN_facts (n := n.toNat) (by omega)
      have e : decI n = decN n.toNat := by rw [decI, if_neg h]
      have g : negB (decI n) = false := by rw [e]; exact neg_dig b
      have t : digs (decI n) = decN n.toNat := by rw [digs, if_neg (by simp [g]), e]
      refine ⟨by simp only [numA, t, b, Bool.and_true, Bool.and_eq_true, decide_eq_true_eq]; exact ⟨c, d⟩, ?_⟩
      rw [numI, if_neg (by simp [g]), t, a]; omega
  exact ⟨key.1, key.2, by simp [numB, key.1, key.2], by rw [numV, if_pos key.1, key.2]⟩
def regI (n : Int) : List UInt8 := 82 :: decI n
def rgB (s : List UInt8) : Bool := decide (2 ≤ s.length) && (s.head? == some 82)
def rgV (s : List UInt8) : Int := if rgB s = true then numV s.tail else 0
def rgK (s : List UInt8) : Bool := rgB s && (numB s.tail && (decide (0 ≤ numV s.tail) && decide (numV s.tail ≤ 15)))
theorem decI_len {n : Int} (h0 : -1000000000 < n) (h1 : n < 1000000000) : 1 ≤ (decI n).length := by
  by_cases h : n < 0
  · rw [decI, if_pos h]; simp
  · rw [decI, if_neg h]; exact (decN_facts (n := n.toNat) (by omega)).2.2.1
theorem reg_reg {n : Int} (h0 : 0 ≤ n) (h1 : n ≤ 15) : rgK (regI n) = true ∧ rgV (regI n) = n := by
  obtain ⟨_, _, c, d⟩ := num_dec (n := n) (by omega) (by omega)
  have l := decI_len (n := n) (by omega) (by omega)
  have g : rgB (regI n) = true := by
    have : 2 ≤ (regI n).length := by simp [regI]; omega
    simp only [rgB, this, decide_true, Bool.true_and]
    rfl
  have t : (regI n).tail = decI n := rfl
  refine ⟨?_, by rw [rgV, if_pos g, t, d]⟩
  simp only [rgK, g, t, c, d, Bool.true_and, Bool.and_eq_true, decide_eq_true_eq]
  exact ⟨h0, h1⟩
/- A decimal number is no register. -/
theorem reg_dec (n : Int) (h0 : -1000000000 < n) (h1 : n < 1000000000) : rgB (decI n) = false := by
  have : (decI n).head? ≠ some 82 := by
    by_cases h : n < 0
    · rw [decI, if_pos h]; simp
    · rw [decI, if_neg h]
      obtain ⟨_, b, _, _⟩ := decN_facts (n := n.toNat) (by omega)
      intro e
      cases hl : decN n.toNat with
      | nil => rw [hl] at e; cases e
      | cons c l =>
        rw [hl] at e b
        simp at e
        subst e
        simp [isD] at b
  simp only [rgB, Bool.and_eq_false_iff]
  right
  simpa using this
/- No sign but digits, '-' and R stands in a register or a number. -/
theorem mem_dec {n : Int} (h0 : -1000000000 < n) (h1 : n < 1000000000) {x : UInt8} (hx : isD x = false) (h45 : x ≠ 45) : x ∉ decI n := by
  by_cases h : n < 0
  · rw [decI, if_pos h]
    obtain ⟨_, b, _, _⟩ := decN_facts (n := (-n).toNat) (by omega)
    simp only [List.mem_cons, not_or]
    exact ⟨h45, dig_ne b x hx⟩
  · rw [decI, if_neg h]
    exact dig_ne (decN_facts (n := n.toNat) (by omega)).2.1 x hx
theorem mem_reg {n : Int} (h0 : -1000000000 < n) (h1 : n < 1000000000) {x : UInt8} (hx : isD x = false) (h45 : x ≠ 45) (h82 : x ≠ 82) : x ∉ regI n := by
  simp only [regI, List.mem_cons, not_or]
  exact ⟨h82, mem_dec h0 h1 hx h45⟩
end Go.Proofs.Ytmoekalagollhaa.Tx
