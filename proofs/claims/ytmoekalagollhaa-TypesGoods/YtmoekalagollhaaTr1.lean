/-
  Trees in memory: cells and slices of cells, read wherever they lie.
-/
import Derived.Test.YtmoekalagollhaaTx1
import Derived.Maps.AppendAt
import Derived.Laws.AppendOwnNone
import Derived.OwnWalk
import Derived.WalkKit
namespace Go.Proofs.Ytmoekalagollhaa.Tr
open Go.RowKit Go.Proofs.Ytmoekalagollhaa.Tx
set_option linter.unusedVariables false
set_option linter.unusedSimpArgs false

/- A cell; a slice of so many things, with all their cells. -/
inductive Dt where
  | c (v : Value)
  | s (n : Nat) (l : List Dt)
mutual
def isC (w : World) (ok : Nat → Prop) : Dt → Value → Prop
  | .c u, v => v = u
  | .s n l, v => ∃ o cp, v = .slice o n cp ∧ (o = none → n = 0 ∧ cp = 0) ∧ (l = [] ∨ ∃ a vs, o = some a ∧ ok a.block ∧ (∀ j u, vs[j]? = some u → w.cell? (a.add j) = some u) ∧ isV w ok l vs)
def isV (w : World) (ok : Nat → Prop) : List Dt → List Value → Prop
  | [], vs => vs = []
  | d :: ds, vs => ∃ v vs', vs = v :: vs' ∧ isC w ok d v ∧ isV w ok ds vs'
end
/- What stands in blocks that are good there stands in blocks that are good here. -/
def Fr (w : World) (ok : Nat → Prop) (w' : World) (ok' : Nat → Prop) : Prop := ∀ b, ok b → b < w.heap.size → ok' b ∧ w'.heap[b]? = w.heap[b]?
mutual
theorem isC.kept {w w' : World} {ok ok' : Nat → Prop} (h : Fr w ok w' ok') : ∀ (d : Dt) (v : Value), isC w ok d v → isC w' ok' d v
  | .c u, v => by simp only [isC]; exact id
  | .s n l, v => by
    simp only [isC]
    rintro ⟨o, cp, rfl, hz, hl⟩
    refine ⟨o, cp, rfl, hz, ?_⟩
    rcases hl with hl | ⟨a, vs, rfl, hok, hc, hv⟩
    · exact .inl hl
    · cases hvs : vs with
      | nil =>
        subst hvs
        cases l with
        | nil => exact .inl rfl
        | cons d ds => simp [isV] at hv
      | cons v0 vs' =>
        have h0 := hc 0 v0 (by rw [hvs]; rfl)
        have hb : a.block < w.heap.size := by
          have := World.block_lt_of_cell? w _ h0
          simpa [Addr.add] using this
        obtain ⟨k1, k2⟩ := h a.block hok hb
        refine .inr ⟨a, vs, rfl, k1, fun j u hu => ?_, isV.kept h l vs hv⟩
        have hbl : (a.add j).block = a.block := by unfold Addr.add; split <;> rfl
        rw [← hc j u hu]
        exact World.cell?_of_block (by rw [hbl]; exact k2)
theorem isV.kept {w w' : World} {ok ok' : Nat → Prop} (h : Fr w ok w' ok') : ∀ (ds : List Dt) (vs : List Value), isV w ok ds vs → isV w' ok' ds vs
  | [], vs => by simp only [isV]; exact id
  | d :: ds, vs => by
    simp only [isV]
    rintro ⟨v, vs', rfl, h1, h2⟩
    exact ⟨v, vs', rfl, isC.kept h d v h1, isV.kept h ds vs' h2⟩
end
theorem Fr.grow {w w' : World} {ok ok' : Nat → Prop} {x : Option Nat} (hg : w.grownBy w' x) (h : ∀ b, ok b → b < w.heap.size → ok' b) (hx : ∀ b, x = some b → ¬ ok b) : Fr w ok w' ok' := fun b hb hl =>
  ⟨h b hb hl, hg.block b hl (fun e => hx b e.symm hb)⟩
theorem Fr.none {w w' : World} {ok : Nat → Prop} (hg : w.grownBy w' none) : Fr w ok w' ok := Fr.grow hg (fun _ h _ => h) (fun _ h => by cases h)
theorem Fr.but {w w' : World} {ok : Nat → Prop} {b : Nat} (hg : w.grownBy w' (some b)) (hb : ¬ ok b) : Fr w ok w' ok := Fr.grow hg (fun _ h _ => h) (fun _ h => by cases h; exact hb)
theorem Fr.here {w : World} {ok ok' : Nat → Prop} (h : ∀ b, ok b → b < w.heap.size → ok' b) : Fr w ok w ok' := fun b hb hl => ⟨h b hb hl, rfl⟩
theorem isV_len {w : World} {ok : Nat → Prop} : ∀ (ds : List Dt) (vs : List Value), isV w ok ds vs → vs.length = ds.length
  | [], vs, h => by simp only [isV] at h; simp [h]
  | d :: ds, vs, h => by
    simp only [isV] at h
    obtain ⟨v, vs', rfl, _, h2⟩ := h
    simp [isV_len ds vs' h2]
theorem isV_app {w : World} {ok : Nat → Prop} : ∀ (a b : List Dt) (vs : List Value), isV w ok (a ++ b) vs ↔ ∃ v1 v2, vs = v1 ++ v2 ∧ isV w ok a v1 ∧ isV w ok b v2
  | [], b, vs => by
    simp only [List.nil_append, isV]
    constructor
    · intro h; exact ⟨[], vs, rfl, rfl, h⟩
    · rintro ⟨v1, v2, rfl, rfl, h⟩; exact h
  | d :: ds, b, vs => by
    simp only [List.cons_append, isV]
    constructor
    · rintro ⟨v, vs', rfl, h1, h2⟩
      obtain ⟨v1, v2, rfl, k1, k2⟩ := (isV_app ds b vs').1 h2
      exact ⟨v :: v1, v2, rfl, ⟨v, v1, rfl, h1, k1⟩, k2⟩
    · rintro ⟨v1, v2, rfl, ⟨v, vs', rfl, h1, h2⟩, h3⟩
      exact ⟨v, vs' ++ v2, rfl, h1, (isV_app ds b _).2 ⟨vs', v2, rfl, h2, h3⟩⟩
theorem isV_join {w : World} {ok : Nat → Prop} {a b : List Dt} {v1 v2 : List Value} (h1 : isV w ok a v1) (h2 : isV w ok b v2) : isV w ok (a ++ b) (v1 ++ v2) := (isV_app a b _).2 ⟨v1, v2, rfl, h1, h2⟩
/- One thing of a row of things of k cells each. -/
theorem isV_at {α : Type} {w : World} {ok : Nat → Prop} {enc : α → List Dt} {k : Nat} (hk : ∀ x, (enc x).length = k) : ∀ (l : List α) (vs : List Value), isV w ok (l.flatMap enc) vs → ∀ (i : Nat) (x : α), l[i]? = some x → ∃ us, isV w ok (enc x) us ∧ ∀ j u, us[j]? = some u → vs[i * k + j]? = some u
  | [], vs, _, i, x, hx => by simp at hx
  | y :: l, vs, h, i, x, hx => by
    rw [List.flatMap_cons] at h
    obtain ⟨v1, v2, rfl, h1, h2⟩ := (isV_app _ _ _).1 h
    have hl := isV_len _ _ h1
    rw [hk] at hl
    cases i with
    | zero =>
      simp at hx
      subst hx
      refine ⟨v1, h1, fun j u hu => ?_⟩
      have hj : j < v1.length := (List.getElem?_eq_some_iff.1 hu).1
      rw [Nat.zero_mul, Nat.zero_add, List.getElem?_append_left hj]
      exact hu
    | succ i =>
      obtain ⟨us, k1, k2⟩ := isV_at hk l v2 h2 i x (by simpa using hx)
      refine ⟨us, k1, fun j u hu => ?_⟩
      rw [List.getElem?_append_right (by rw [hl, Nat.succ_mul]; omega), hl, show (i + 1) * k + j - k = i * k + j by rw [Nat.succ_mul]; omega]
      exact k2 j u hu
theorem row_at {α : Type} {w : World} {ok : Nat → Prop} {enc : α → List Dt} {k : Nat} (hk : ∀ x, (enc x).length = k) (h0 : 0 < k) {l : List α} {n : Nat} {o : Option Addr} {m cp : Nat} (h : isC w ok (.s n (l.flatMap enc)) (.slice o m cp)) {i : Nat} {x : α} (hx : l[i]? = some x) :
    ∃ a us, o = some a ∧ ok a.block ∧ isV w ok (enc x) us ∧ ∀ j u, us[j]? = some u → w.cell? ((a.add (i * k)).add j) = some u := by
  simp only [isC] at h
  obtain ⟨o', cp', he, _, hl⟩ := h
  cases he
  rcases hl with hl | ⟨a, vs, rfl, hok, hc, hv⟩
  · have := (List.flatMap_eq_nil_iff.1 hl) x (List.mem_of_getElem? hx)
    have := hk x
    simp_all
  · obtain ⟨us, h1, h2⟩ := isV_at hk l vs hv i x hx
    refine ⟨a, us, rfl, hok, h1, fun j u hu => ?_⟩
    have := hc _ _ (h2 j u hu)
    rwa [show (a.add (i * k)).add j = a.add (i * k + j) by unfold Addr.add; split <;> split <;> split <;> simp_all <;> omega]
theorem isC_len {w : World} {ok : Nat → Prop} {n : Nat} {l : List Dt} {v : Value} (h : isC w ok (.s n l) v) : ∃ o cp, v = .slice o n cp := by
  simp only [isC] at h
  obtain ⟨o, cp, he, _, _⟩ := h
  exact ⟨o, cp, he⟩
/- A row of one's own reads so. -/
theorem own_isC {w : World} {ok : Nat → Prop} {B : Nat} {e : TypeId} {k : Nat} {v : Value} {n : Nat} {xs : List Value} {l : List Dt} (h : w.ownsRow B e k v n xs) (hb : ∀ g, v.ownBlock = some g → ok g) (hv : isV w ok l xs) : isC w ok (.s n l) v := by
  have hc := fun g hg => h.cells (g := g) hg
  rcases h.2 with ⟨rfl, rfl⟩ | ⟨g, cap, cur, rfl, hbg, hgg, _⟩
  · rw [isC.eq_2]
    have hl : xs = [] := List.eq_nil_of_length_eq_zero (by simpa using h.1)
    have := isV_len _ _ hv
    rw [hl] at this
    exact ⟨none, 0, rfl, fun _ => ⟨rfl, rfl⟩, .inl (List.eq_nil_of_length_eq_zero (by simpa using this.symm))⟩
  · rw [isC.eq_2]
    exact ⟨_, cap, rfl, (fun e => by cases e), .inr ⟨⟨g, 0, none⟩, xs, rfl, hb g rfl, hc g rfl, hv⟩⟩
end Go.Proofs.Ytmoekalagollhaa.Tr
