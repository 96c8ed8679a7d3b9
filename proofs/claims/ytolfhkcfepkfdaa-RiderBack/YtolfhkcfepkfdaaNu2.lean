/-
  The document's own reader (package spinetref08): Num.
-/
import Derived.Test.YtolfhkcfepkfdaaNu1
import Derived.Test.YtolfhkcfepkfdaaWr4
import Derived.Test.YtolfhkcfepkfdaaRi2
namespace Go.Proofs.Ytolfhkcfepkfdaa.Ri
open Go.RowKit Go.Proofs.Ytolfhkcfepkfdaa.Tx Go.Proofs.Ytolfhkcfepkfdaa.Bits
set_option linter.unusedVariables false
set_option linter.unusedSimpArgs false
set_option maxRecDepth 100000

/- What was gathered of bytes with 128 more. -/
def accN : List UInt8 → Int
  | [] => 0
  | c :: r => (c.toNat : Int) % 128 + 128 * accN r
theorem accN_snoc (c : UInt8) : ∀ d : List UInt8, accN (d ++ [c]) = accN d + (c.toNat : Int) % 128 * 128 ^ d.length
  | [] => by simp [accN]
  | e :: d => by
    simp only [List.cons_append, accN, accN_snoc c d, List.length_cons, Int.pow_succ, Int.mul_add]
    generalize (128 : Int) ^ d.length = m
    generalize (c.toNat : Int) % 128 = x
    rw [show 128 * (x * m) = x * (m * 128) by rw [Int.mul_comm m, ← Int.mul_assoc, ← Int.mul_assoc, Int.mul_comm x]]
    omega
theorem accN_bd : ∀ d : List UInt8, 0 ≤ accN d ∧ accN d < 128 ^ d.length
  | [] => by simp [accN]
  | c :: d => by
    have := accN_bd d
    simp only [accN, List.length_cons, Int.pow_succ]
    generalize (128 : Int) ^ d.length = m at *
    omega
theorem valN_snoc (c : UInt8) (hc : c.toNat < 128) : ∀ d : List UInt8, (∀ e ∈ d, 128 ≤ e.toNat) → Shp (d ++ [c]) ∧ valN (d ++ [c]) = accN d + (c.toNat : Int) * 128 ^ d.length - (if c.toNat < 64 then 0 else 128 ^ (d.length + 1))
  | [], _ => by
    refine ⟨hc, ?_⟩
    simp only [List.nil_append, valN, accN, List.length_nil]
    split <;> simp
  | e :: d, h => by
    obtain ⟨h1, h2⟩ := valN_snoc c hc d (fun x hx => h x (List.mem_cons_of_mem _ hx))
    have he := h e List.mem_cons_self
    cases hd : d ++ [c] with
    | nil => simp at hd
    | cons a r =>
      rw [hd] at h1 h2
      refine ⟨by rw [List.cons_append, hd]; exact ⟨he, h1⟩, ?_⟩
      rw [List.cons_append, hd, valN, h2]
      simp only [accN, List.length_cons, Int.pow_succ]
      generalize (128 : Int) ^ d.length = m
      have e1 : (c.toNat : Int) * (m * 128) = 128 * ((c.toNat : Int) * m) := by rw [← Int.mul_assoc, Int.mul_comm]
      rw [e1]
      generalize (c.toNat : Int) * m = y
      split <;> omega
theorem fresh_w (U : World) : Wb (U.alloc (.cells #[.slice none 0 0, .bool false] 28)) U.heap.size U.heap.size (.slice none 0 0) [] false := ⟨heap_alloc_new _ _, ⟨rfl, .inl ⟨rfl, rfl⟩⟩⟩
theorem fresh_g {U W' : World} {o : Obj} {v' : Value} (h : Wst (U.alloc o) W' U.heap.size (.slice none 0 0) v') : U.grownBy W' none :=
  ⟨h.os, h.tape, h.output, Nat.le_trans (by simp) h.size, fun i hi _ => (h.block i (by simp; omega) (by omega) (by simp [Value.ownBlock])).trans (heap_alloc_old _ _ hi)⟩
/- A new writer's Num: its bytes' number. -/
theorem fresh_num (U : World) (n : Int) : Calls Try.prog 29 #[.pointer (some ⟨U.heap.size, 0, none⟩), .int .i64 n] (U.alloc (.cells #[.slice none 0 0, .bool false] 28)) fun e W' => e = .returned (.tuple #[]) ∧ U.grownBy W' none ∧ ∃ a m c, W'.cell? ⟨U.heap.size, 0, none⟩ = some (.slice a m c) ∧ (fitsB n 32 = true → m = (numL n).length) ∧ m ≤ 5 := by
  cases h : fitsB n 32
  · refine (wnum_no (fresh_w U) n h).mono fun e W' ⟨he, hw, hs⟩ => ⟨he, fresh_g hs, none, 0, 0, hw.c0, fun h => by simp at h, by omega⟩
  · refine (wnum_yes (fresh_w U) (by simp) (by simp) n h).mono fun e W' ⟨he, v', hw, hs⟩ => ?_
    obtain ⟨a, c, hv⟩ := own_shape hw.row
    refine ⟨he, fresh_g hs, a, _, c, by rw [← hv]; exact hw.c0, fun _ => by simp, ?_⟩
    have := numF_len 4 n
    simpa [numL] using this
theorem Rb.kept {W W' : World} {q p : Nat} {s : List UInt8} {bad : Bool} (r : Rb W q s p bad) (h : W.grownBy W' none) : Rb W' q s p bad := ⟨(h.block q (Array.getElem?_eq_some_iff.1 r.head).1 (by simp)).trans r.head, r.le, r.max⟩
theorem g_then {a b c : World} {k : Option Nat} (h : a.grownBy b k) (hg : b.grownBy c none) : a.grownBy c k :=
  ⟨hg.os.trans h.os, hg.tape.trans h.tape, hg.output.trans h.output, Nat.le_trans h.size hg.size, fun i hi hn => (hg.block i (Nat.lt_of_lt_of_le hi h.size) (by simp)).trans (h.block i hi hn)⟩
theorem g_more {a b c : World} {k : Nat} (h : a.grownBy b (some k)) (hg : b.grownBy c (some k)) : a.grownBy c (some k) :=
  ⟨hg.os.trans h.os, hg.tape.trans h.tape, hg.output.trans h.output, Nat.le_trans h.size hg.size, fun i hi hn => (hg.block i (Nat.lt_of_lt_of_le hi h.size) hn).trans (h.block i hi hn)⟩
end Go.Proofs.Ytolfhkcfepkfdaa.Ri
