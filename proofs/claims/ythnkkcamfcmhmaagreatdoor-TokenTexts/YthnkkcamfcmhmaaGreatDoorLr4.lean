/-
  The document's own tokens (package spinetref09): one.
-/
import Derived.Test.YthnkkcamfcmhmaaGreatDoorLr3
namespace Go.Proofs.YthnkkcamfcmhmaaGreatDoor.Lx
open Go.RowKit Go.Proofs.YthnkkcamfcmhmaaGreatDoor.Tx
set_option linter.unusedVariables false
set_option linter.unusedSimpArgs false
set_option maxRecDepth 100000

theorem alloc_g (w : World) (o : Obj) : w.grownBy (w.alloc o) none := ⟨rfl, rfl, rfl, by simp, fun i hi _ => heap_alloc_old _ _ hi⟩
theorem grown_trans {a b c : World} (h : a.grownBy b none) (hg : b.grownBy c none) : a.grownBy c none := h.andThen hg (fun j hj => by simp at hj)
theorem grown_own {a b c : World} {k : Nat} (h : a.grownBy b none) (hk : a.heap.size ≤ k) (hg : b.grownBy c (some k)) : a.grownBy c none :=
  h.andThen hg (fun j hj => .inl (by have := Option.some.inj hj; omega))
theorem set_g (w : World) (b k : Nat) (u : Value) : w.grownBy (w.setCell ⟨b, k, none⟩ u) (some b) :=
  ⟨rfl, rfl, rfl, by simp [World.setCell], fun j _ hj => Below.heap_setCell w ⟨b, k, none⟩ u j (fun e => hj (by simp [e]))⟩
theorem then_g {a b c : World} {k : Nat} (h : a.grownBy b (some k)) (hg : b.grownBy c (some k)) : a.grownBy c (some k) :=
  h.andThen hg (fun j hj => .inr hj)
theorem four_g (w : World) (b : Nat) (u0 u1 u2 u3 : Value) : w.grownBy ((((w.setCell ⟨b, 0, none⟩ u0).setCell ⟨b, 1, none⟩ u1).setCell ⟨b, 2, none⟩ u2).setCell ⟨b, 3, none⟩ u3) (some b) :=
  then_g (then_g (then_g (set_g _ _ _ _) (set_g _ _ _ _)) (set_g _ _ _ _)) (set_g _ _ _ _)
theorem keep_n {W W' : World} {k : Nat} {o : Obj} (h : W.heap[k]? = some o) (hg : W.grownBy W' none) : W'.heap[k]? = some o := (hg.block k (Array.getElem?_eq_some_iff.1 h).1 (by simp)).trans h
theorem free_at {W : World} {q k : Nat} {c : Array Value} {t : TypeId} (h : W.heap[q]? = some (.cells c t (0, 0))) : W.frozen? ⟨q, k, none⟩ = false := by simp [World.frozen?, h]
theorem four_at {W : World} {X : Nat} {a b c d : Value} {t : TypeId} (h : W.heap[X]? = some (.cells #[a, b, c, d] t (0, 0))) :
    W.cell? ⟨X, 0, none⟩ = some a ∧ W.cell? ⟨X, 1, none⟩ = some b ∧ W.cell? ⟨X, 2, none⟩ = some c ∧ W.cell? ⟨X, 3, none⟩ = some d := by
  refine ⟨?_, ?_, ?_, ?_⟩ <;> (rw [cell_of_row _ _ _ _ _ _ h]; rfl)
/- The result's own block, while it is empty. -/
def Zr (W : World) (R : Nat) : Prop := W.heap[R]? = some (.cells #[.int .i64 0, .string (bs []), .int .i64 0, .int .i64 0] 32 (0, 0))
theorem ld_tw {s : List UInt8} {p q : Nat} (P : UInt8 → Bool) (hpq : p ≤ q) (hq : q ≤ s.length) (h1 : ((s.drop p).take (q - p)).all P = true) (h2 : ∀ c, s[q]? = some c → P c = false) : (s.drop p).takeWhile P = (s.drop p).take (q - p) ∧ ((s.drop p).take (q - p)).length = q - p := by
  refine ⟨tw_is P (s.drop p) (q - p) (by simp; omega) (fun i hi c hc => ?_) (fun c hc => ?_), by simp; omega⟩
  · refine List.all_eq_true.1 h1 c ?_
    refine List.mem_of_getElem? (i := i) ?_
    rw [List.getElem?_take, if_pos hi]
    exact hc
  · rw [List.getElem?_drop, show p + (q - p) = q by omega] at hc
    exact h2 c hc
/- What oneT is, by the first byte. -/
theorem oneT_let {c : UInt8} {r : List UInt8} {a : Int} (h : letN c = true) : oneT (c :: r) a = if keyB ((c :: r).takeWhile ldN) = true then .ok (⟨2, (c :: r).takeWhile ldN, 0, a⟩, ((c :: r).takeWhile ldN).length) else if 24 < ((c :: r).takeWhile ldN).length then .error 2 else .ok (⟨1, (c :: r).takeWhile ldN, 0, a⟩, ((c :: r).takeWhile ldN).length) := by
  unfold oneT
  simp only [h, if_true]
theorem oneT_dig {c : UInt8} {r : List UInt8} {a : Int} (h : letN c = false) (h2 : digN c = true) : oneT (c :: r) a = numT (c :: r) a := by
  unfold oneT
  simp only [h, h2, if_true, Bool.false_eq_true, if_false]
theorem oneT_quo {r : List UInt8} {a : Int} : oneT (34 :: r) a = if (r.drop (r.takeWhile strN).length).head? ≠ some 34 then .error 90 else if 64 < (r.takeWhile strN).length then .error 2 else .ok (⟨5, r.takeWhile strN, 0, a⟩, (r.takeWhile strN).length + 2) := by
  unfold oneT
  have h1 : letN 34 = false := by decide
  have h2 : digN 34 = false := by decide
  simp only [h1, h2, Bool.false_eq_true, if_false, if_true]
theorem oneT_sign {c : UInt8} {r : List UInt8} {a : Int} (h : letN c = false) (h2 : digN c = false) (h3 : c ≠ 34) : oneT (c :: r) a = if 1 ≤ r.length ∧ signB ((c :: r).take 2) = true then .ok (⟨6, (c :: r).take 2, 0, a⟩, 2) else if signB [c] = true then .ok (⟨6, [c], 0, a⟩, 1) else .error 90 := by
  unfold oneT
  simp only [h, h2, h3, Bool.false_eq_true, if_false]
end Go.Proofs.YthnkkcamfcmhmaaGreatDoor.Lx
