/-
  The document's own tokens (package spinetref09): number.
-/
import Derived.Test.YthnkkcamfcmhmaaGreatDoorLr2
namespace Go.Proofs.YthnkkcamfcmhmaaGreatDoor.Lx
open Go.RowKit Go.Proofs.YthnkkcamfcmhmaaGreatDoor.Tx
set_option linter.unusedVariables false
set_option linter.unusedSimpArgs false
set_option maxRecDepth 100000

/- What number and one tell: a token, how far, an error. -/
def TkR (p : Nat) (o : Except Int (Tk × Nat)) (v : Value) : Prop := match o with
  | .ok (t, len) => v = .tuple #[.agg #[.int .i64 t.k, .string (bs t.t), .int .i64 t.n, .int .i64 t.a], .int .i64 ((p : Int) + (len : Nat)), .int .i64 0]
  | .error e => ∃ k x n a, v = .tuple #[.agg #[.int .i64 k, .string (bs x), .int .i64 n, .int .i64 a], .int .i64 0, .int .i64 e]
theorem num_split {s : List UInt8} {p q : Nat} (hpq : p ≤ q) (hq : q ≤ s.length) (h1 : ((s.drop p).take (q - p)).all hexN = true) (h2 : ∀ c, s[q]? = some c → hexN c = false) : (s.drop p).takeWhile hexN = (s.drop p).take (q - p) ∧ ((s.drop p).take (q - p)).length = q - p ∧ (s.drop p).drop (q - p) = s.drop q := by
  have hl : ((s.drop p).take (q - p)).length = q - p := by simp; omega
  refine ⟨tw_is hexN (s.drop p) (q - p) (by simp; omega) (fun i hi c hc => ?_) (fun c hc => ?_), hl, by rw [List.drop_drop, show p + (q - p) = q by omega]⟩
  · refine List.all_eq_true.1 h1 c ?_
    refine List.mem_of_getElem? (i := i) ?_
    rw [List.getElem?_take, if_pos hi]
    exact hc
  · rw [List.getElem?_drop, show p + (q - p) = q by omega] at hc
    exact h2 c hc
theorem take_on {s : List UInt8} {p q : Nat} (hpq : p ≤ q) (h : q < s.length) : (s.drop p).take (q + 1 - p) = (s.drop p).take (q - p) ++ [s[q]] := by
  rw [show q + 1 - p = (q - p) + 1 by omega, List.take_succ_eq_append_getElem (by simp; omega), List.getElem_drop]
  congr 2
  congr 1
  omega
theorem take_in {s : List UInt8} {p i q : Nat} (h1 : p ≤ i) (h2 : i ≤ q) (hq : q ≤ s.length) : ∃ r, (s.drop p).take (q - p) = (s.drop p).take (i - p) ++ r := by
  refine ⟨((s.drop p).take (q - p)).drop (i - p), ?_⟩
  conv => lhs; rw [← List.take_append_drop (i - p) ((s.drop p).take (q - p))]
  rw [List.take_take, show min (i - p) (q - p) = i - p by omega]
theorem dv_let {c : UInt8} (h : hexN c = true) (hl : letN c = true) : 65 ≤ c.toNat ∧ c.toNat ≤ 70 ∧ dvN c = c.toNat - 65 + 10 := by
  refine ⟨?_, ?_, by unfold dvN; rw [if_pos hl]⟩
  · simp [hexN, hexI, digI, letN, ltI] at h hl; omega
  · simp [hexN, hexI, digI, letN, ltI] at h hl; omega
theorem dv_dig {c : UInt8} (h : hexN c = true) (hl : letN c = false) : 48 ≤ c.toNat ∧ c.toNat ≤ 57 ∧ dvN c = c.toNat - 48 := by
  refine ⟨?_, ?_, by unfold dvN; rw [if_neg (by simp [hl])]⟩
  · simp [hexN, hexI, digI, letN, ltI] at h hl; omega
  · simp [hexN, hexI, digI, letN, ltI] at h hl; omega
theorem dv_le {c : UInt8} (h : hexN c = true) : dvN c ≤ 15 := by
  cases hl : letN c
  · have := dv_dig h hl; omega
  · have := dv_let h hl; omega
theorem two_g (w : World) (a b : Obj) : w.grownBy ((w.alloc a).alloc b) none := ⟨rfl, rfl, rfl, by simp; omega, fun i hi _ => by rw [heap_alloc_old _ _ (by simp; omega), heap_alloc_old _ _ hi]⟩
theorem tk_ok {p len : Nat} {k n a x : Int} {t : List UInt8} (hx : x = (p : Int) + (len : Nat)) : TkR p (.ok (⟨k, t, n, a⟩, len)) (.tuple #[.agg #[.int .i64 k, .string (bs t), .int .i64 n, .int .i64 a], .int .i64 x, .int .i64 0]) := by rw [hx]; rfl
theorem tk_no {p : Nat} {k n a e : Int} {t : List UInt8} : TkR p (.error e) (.tuple #[.agg #[.int .i64 k, .string (bs t), .int .i64 n, .int .i64 a], .int .i64 0, .int .i64 e]) := ⟨k, t, n, a, rfl⟩
theorem numT_at {s : List UInt8} {p q : Nat} (a : Int) (hpq : p ≤ q) (hq : q ≤ s.length) (h1 : ((s.drop p).take (q - p)).all hexN = true) (h2 : ∀ c, s[q]? = some c → hexN c = false) :
    numT (s.drop p) a = if s[q]? = some 72 then numV 4294967296 (valB 16 ((s.drop p).take (q - p))) (q - p + 1) 3 a else if s[q]? = some 88 then numV 256 (valB 16 ((s.drop p).take (q - p))) (q - p + 1) 4 a
      else if ((s.drop p).take (q - p)).all digN = false then .error 90 else if s[q]? = some 46 ∧ s[q + 1]? ≠ some 46 then .error 90 else numV 2147483648 (valB 10 ((s.drop p).take (q - p))) (q - p) 3 a := by
  obtain ⟨e1, e2, e3⟩ := num_split hpq hq h1 h2
  unfold numT
  simp only []
  rw [e1, e2, e3, List.head?_drop, List.tail_drop, List.head?_drop]
end Go.Proofs.YthnkkcamfcmhmaaGreatDoor.Lx
