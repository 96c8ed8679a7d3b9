/-
  The document's own reader in memory (package spinetref08): Raw, Byte, Bad, End.
-/
import Derived.Test.YtolfhkcfepkfdaaProg
import Derived.Test.YtolfhkcfepkfdaaTx1
import Derived.WalkKit
import Derived.ProofKit
import Derived.Deep.QuietTactic
import Derived.BigQuiet
import Derived.Deep.Cut
import Derived.Deep.RegionHeld3
import Derived.RegionTactic
import Derived.OrdersHeld
import Derived.Maps.Range
import Derived.Laws.Cover1
import Derived.Deep.MidRow
import Derived.Lib.SmallJoins
import Derived.Maps.OwnSet
namespace Go.Proofs.Ytolfhkcfepkfdaa.Ri
open Go.RowKit Go.Proofs.Ytolfhkcfepkfdaa.Tx
set_option linter.unusedVariables false
set_option linter.unusedSimpArgs false
set_option maxRecDepth 100000

structure Hid (p : Prop) : Prop where
  out : p
theorem hide {p : Prop} (h : p) : Hid p := ⟨h⟩
/- A block of three cells of which one is written. -/
theorem three_set {W : World} {q : Nat} {a b c : Value} {t : TypeId} (h : W.heap[q]? = some (.cells #[a, b, c] t (0, 0))) (k : Nat) (v : Value) : (W.setCell ⟨q, k, none⟩ v).heap[q]? = some (.cells (#[a, b, c].setIfInBounds k v) t (0, 0)) := by
  have hlt := (Array.getElem?_eq_some_iff.1 h).1
  have h' : W.heap[q] = .cells #[a, b, c] t (0, 0) := by simpa [Array.getElem?_eq_getElem hlt] using h
  show (W.heap.modify q _)[q]? = _
  rw [Array.getElem?_eq_getElem (by simpa using hlt), Array.getElem_modify_self, h']
  rfl
theorem set_g (w : World) (b k : Nat) (u : Value) : w.grownBy (w.setCell ⟨b, k, none⟩ u) (some b) :=
  ⟨rfl, rfl, rfl, by simp [World.setCell], fun j _ hj => Below.heap_setCell w ⟨b, k, none⟩ u j (fun e => hj (by simp [e]))⟩
theorem then_g {a b c : World} {k : Nat} (h : a.grownBy b (some k)) (hg : b.grownBy c (some k)) : a.grownBy c (some k) :=
  h.andThen hg (fun j hj => .inr hj)
theorem free_at {W : World} {q k : Nat} {c : Array Value} {t : TypeId} (h : W.heap[q]? = some (.cells c t (0, 0))) : W.frozen? ⟨q, k, none⟩ = false := by simp [World.frozen?, h]
/- Block q of W is the document's reader of s, at p. -/
structure Rb (W : World) (q : Nat) (s : List UInt8) (p : Nat) (bad : Bool) : Prop where
  head : W.heap[q]? = some (.cells #[.string (bs s), .int .i64 p, .bool bad] 43 (0, 0))
  le : p ≤ s.length
  max : s.length ≤ 1000000
theorem Rb.c0 {W : World} {q p : Nat} {s : List UInt8} {bad : Bool} (r : Rb W q s p bad) : W.cell? ⟨q, 0, none⟩ = some (.string (bs s)) := by rw [cell_of_row _ _ _ _ _ _ r.head]; rfl
theorem Rb.c1 {W : World} {q p : Nat} {s : List UInt8} {bad : Bool} (r : Rb W q s p bad) : W.cell? ⟨q, 1, none⟩ = some (.int .i64 p) := by rw [cell_of_row _ _ _ _ _ _ r.head]; rfl
theorem Rb.c2 {W : World} {q p : Nat} {s : List UInt8} {bad : Bool} (r : Rb W q s p bad) : W.cell? ⟨q, 2, none⟩ = some (.bool bad) := by rw [cell_of_row _ _ _ _ _ _ r.head]; rfl
theorem drewN_heap (w : World) (n : Nat) : (w.drewN n).heap = w.heap := rfl
theorem drewN_g (w : World) (n : Nat) : w.grownBy (w.drewN n) none := ⟨rfl, rfl, rfl, Nat.le_refl _, fun _ _ _ => rfl⟩
theorem Rb.drew {W : World} {q p : Nat} {s : List UInt8} {bad : Bool} (r : Rb W q s p bad) (n : Nat) : Rb (W.drewN n) q s p bad := ⟨r.head, r.le, r.max⟩
theorem dset_g (w : World) (n b k : Nat) (u : Value) : w.grownBy ((w.drewN n).setCell ⟨b, k, none⟩ u) (some b) := by
  have h := set_g (w.drewN n) b k u
  exact ⟨h.os, h.tape, h.output, h.size, fun j hj hn => h.block j hj hn⟩
theorem dset2_g (w : World) (n m b k : Nat) (u : Value) : w.grownBy (((w.drewN n).setCell ⟨b, k, none⟩ u).drewN m) (some b) := by
  have h := dset_g w n b k u
  exact ⟨h.os, h.tape, h.output, h.size, fun j hj hn => h.block j hj hn⟩
theorem more_g {w w' : World} {k : Option Nat} (h : w.grownBy w' k) (m : Nat) : w.grownBy (w'.drewN m) k := ⟨h.os, h.tape, h.output, h.size, fun j hj hn => h.block j hj hn⟩
theorem Rb.spoil {W : World} {q p : Nat} {s : List UInt8} {bad : Bool} (r : Rb W q s p bad) : Rb (W.setCell ⟨q, 2, none⟩ (.bool true)) q s p true := ⟨three_set r.head 2 _, r.le, r.max⟩
theorem Rb.move {W : World} {q p : Nat} {s : List UInt8} {bad : Bool} (r : Rb W q s p bad) {k : Nat} (hk : k ≤ s.length) : Rb (W.setCell ⟨q, 1, none⟩ (.int .i64 k)) q s k bad := ⟨three_set r.head 1 _, hk, r.max⟩
theorem bs_ext (l : List UInt8) (a b : Nat) : (bs l).extract a b = bs ((l.drop a).take (b - a)) := ByteArray.extract_mk l a b
/- Can so many be taken? -/
def canB (s : List UInt8) (p : Nat) (bad : Bool) (n : Int) : Bool := !bad && (decide (0 ≤ n) && decide (n ≤ (s.length : Int) - p))
set_option maxHeartbeats 1000000 in
theorem raw_no {W : World} {q p : Nat} {s : List UInt8} {bad : Bool} (r : Rb W q s p bad) (n : Int) (h : canB s p bad n = false) :
    Calls Try.prog 36 #[.pointer (some ⟨q, 0, none⟩), .int .i64 n] W fun e W' => e = .returned (.string (bs [])) ∧ Rb W' q s p true ∧ W.grownBy W' (some q) := by
  have c0 := r.c0
  have c1 := r.c1
  have c2 := r.c2
  have hf := fun k => free_at (k := k) r.head
  have hsz := bs_size s
  have hle := r.le
  have hmax := r.max
  have hw : IntKind.i64.wrap ((s.length : Int) - p) = (s.length : Int) - p := IntWalk.i64_in _ ⟨by omega, by omega⟩
  have HR := hide r
  have b0' : (⟨#[]⟩ : ByteArray) = bs [] := rfl
  clear r
  cases bad
  · by_cases h0 : n < 0
    · go_enter Try.func36, Try.ntmps36
      go_wp2
      go_quiet (fail)
      go_wp2
      go_ret
      exact ⟨rfl, (HR.out.drew _).spoil, dset_g _ _ _ _ _⟩
    · have h1 : (s.length : Int) - p < n := by
        simp [canB] at h
        omega
      go_enter Try.func36, Try.ntmps36
      go_wp2
      go_quiet (fail)
      go_wp2
      go_ret
      exact ⟨rfl, (HR.out.drew _).spoil, dset_g _ _ _ _ _⟩
  · go_enter Try.func36, Try.ntmps36
    go_wp2
    go_quiet (fail)
    go_wp2
    go_ret
    exact ⟨rfl, (HR.out.drew _).spoil, dset_g _ _ _ _ _⟩
set_option maxHeartbeats 1000000 in
theorem raw_yes {W : World} {q p : Nat} {s : List UInt8} (r : Rb W q s p false) (n : Nat) (h : p + n ≤ s.length) :
    Calls Try.prog 36 #[.pointer (some ⟨q, 0, none⟩), .int .i64 n] W fun e W' => e = .returned (.string (bs ((s.drop p).take n))) ∧ Rb W' q s (p + n) false ∧ W.grownBy W' (some q) := by
  have c0 := r.c0
  have c1 := r.c1
  have c2 := r.c2
  have hf := fun k => free_at (k := k) r.head
  have hsz := bs_size s
  have hle := r.le
  have hmax := r.max
  have hx : (bs s).extract p (p + n) = bs ((s.drop p).take n) := by rw [bs_ext]; congr 2; omega
  have HM := hide (fun k => show Rb ((W.drewN k).setCell ⟨q, 1, none⟩ (.int .i64 ((p : Int) + n))) q s (p + n) false by have := (r.drew k).move h; rwa [Int.natCast_add] at this)
  have h1 : ¬ (s.length : Int) - p < n := by omega
  have h0 : ¬ (n : Int) < 0 := by omega
  have h2 : (p : Int) + n ≤ s.length := by omega
  have h3 : (p : Int) + n - n = p := by omega
  have i0 : (0 : Int) ≤ (p : Int) := by omega
  have i1 : (p : Int) ≤ (p : Int) + n := by omega
  have i2 : ((p : Int) + n).toNat = p + n := by omega
  have i3 : (0 : Int) ≤ (p : Int) + n := by omega
  have hw : IntKind.i64.wrap ((s.length : Int) - p) = (s.length : Int) - p := IntWalk.i64_in _ ⟨by omega, by omega⟩
  have hw2 : IntKind.i64.wrap (p : Int) = (p : Int) := IntWalk.i64_in _ ⟨by omega, by omega⟩
  clear r
  go_enter Try.func36, Try.ntmps36
  go_wp2
  go_quiet (fail)
  go_upto_region 5 with fail
  have HU := hide (HM.out nq)
  have GU := hide (dset_g W nq q 1 (.int .i64 ((p : Int) + n)))
  generalize (W.drewN nq).setCell ⟨q, 1, none⟩ (.int .i64 ((p : Int) + n)) = U at HU GU ⊢
  have d0 := HU.out.c0
  have d1 := HU.out.c1
  rw [Int.natCast_add] at d1
  clear HM c0 c1 c2 hf
  go_quiet (fail)
  go_wp2
  go_ret
  exact ⟨rfl, HU.out.drew _, more_g GU.out _⟩
theorem bad_at {W : World} {q p : Nat} {s : List UInt8} {bad : Bool} (r : Rb W q s p bad) : Calls Try.prog 37 #[.pointer (some ⟨q, 0, none⟩)] W fun e W' => e = .returned (.bool bad) ∧ W' = W := by
  have c2 := r.c2
  clear r
  go_enter Try.func37, Try.ntmps37
  go_wp2
  go_ret
  exact ⟨rfl, rfl⟩
theorem cast_beq (a b : Nat) : ((a : Int) == (b : Int)) = (a == b) := by
  rw [Bool.eq_iff_iff]
  simp
  omega
def endB (s : List UInt8) (p : Nat) (bad : Bool) : Bool := !bad && (p == s.length)
theorem end_at {W : World} {q p : Nat} {s : List UInt8} {bad : Bool} (r : Rb W q s p bad) : Calls Try.prog 38 #[.pointer (some ⟨q, 0, none⟩)] W fun e W' => e = .returned (.bool (endB s p bad)) ∧ W.grownBy W' none := by
  have c0 := r.c0
  have c1 := r.c1
  have c2 := r.c2
  have hsz := bs_size s
  have hle := r.le
  have hmax := r.max
  clear r
  cases bad
  · go_enter Try.func38, Try.ntmps38
    go_wp2
    go_quiet (fail)
    go_wp2
    go_ret
    refine ⟨?_, drewN_g _ _⟩
    show Ending.returned (.bool ((p : Int) == (s.length : Int))) = _
    rw [cast_beq]
    rfl
  · go_enter Try.func38, Try.ntmps38
    go_wp2
    go_quiet (fail)
    go_wp2
    go_ret
    exact ⟨rfl, drewN_g _ _⟩
end Go.Proofs.Ytolfhkcfepkfdaa.Ri
