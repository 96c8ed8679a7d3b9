/-
  The document's own store in memory; its place, Get.
-/
import Derived.Test.YtaekljpijnkjoaaDoorRf1
import Derived.Laws.Cover1
namespace Go.Proofs.YtaekljpijnkjoaaDoor.St
open Go.RowKit Go.Maps Go.Proofs.YtaekljpijnkjoaaDoor.Tx
set_option linter.unusedVariables false
set_option linter.unusedSimpArgs false
set_option maxRecDepth 100000

def txV (p : Pr) : Value := .string (bs p.2)
/- Block q of w is the document's store, with the files l in order; its two rows are new since there were B blocks. -/
structure Rs (W : World) (B q : Nat) (vN vT : Value) (l : List Pr) : Prop where
  head : W.heap[q]? = some (.cells #[vN, vT] 28 (0, 0))
  nm : W.ownsRow B 9 1 vN l.length (l.map nmV)
  tx : W.ownsRow B 9 1 vT l.length (l.map txV)
  ne : vN.ownBlock = none ∨ vN.ownBlock ≠ vT.ownBlock
theorem Rs.c0 {W : World} {B q : Nat} {vN vT : Value} {l : List Pr} (r : Rs W B q vN vT l) : W.cell? ⟨q, 0, none⟩ = some vN := by rw [cell_of_row _ _ _ _ _ _ r.head]; rfl
theorem Rs.c1 {W : World} {B q : Nat} {vN vT : Value} {l : List Pr} (r : Rs W B q vN vT l) : W.cell? ⟨q, 1, none⟩ = some vT := by rw [cell_of_row _ _ _ _ _ _ r.head]; rfl
theorem Rs.lt {W : World} {B q : Nat} {vN vT : Value} {l : List Pr} (r : Rs W B q vN vT l) : q < W.heap.size := (Array.getElem?_eq_some_iff.1 r.head).1
theorem row_type {W : World} {B n : Nat} {e : TypeId} {v : Value} {xs : List Value} (h : W.ownsRow B e 1 v n xs) {k : Nat} (hk : v.ownBlock = some k) : ∃ c, W.heap[k]? = some (.cells c e (0, 0)) := by
  rcases h.2 with ⟨rfl, _⟩ | ⟨g, cap, cur, rfl, _, hb, _⟩
  · simp [Value.ownBlock] at hk
  · simp [Value.ownBlock] at hk
    subst hk
    exact ⟨cur, hb⟩
/- The document's head is neither row. -/
theorem Rs.off0 {W : World} {B q : Nat} {vN vT : Value} {l : List Pr} (r : Rs W B q vN vT l) : vN.ownBlock ≠ some q := fun e => by
  obtain ⟨c, h⟩ := row_type r.nm e
  rw [r.head] at h
  cases h
theorem Rs.off1 {W : World} {B q : Nat} {vN vT : Value} {l : List Pr} (r : Rs W B q vN vT l) : vT.ownBlock ≠ some q := fun e => by
  obtain ⟨c, h⟩ := row_type r.tx e
  rw [r.head] at h
  cases h
theorem Rs.kept {W W' : World} {B q : Nat} {vN vT : Value} {l : List Pr} (r : Rs W B q vN vT l) {row : Option Nat} (hg : W.grownBy W' row) (h0 : some q ≠ row) (h1 : vN.ownBlock = none ∨ vN.ownBlock ≠ row) (h2 : vT.ownBlock = none ∨ vT.ownBlock ≠ row) : Rs W' B q vN vT l :=
  ⟨(hg.block q r.lt h0).trans r.head, r.nm.kept hg h1, r.tx.kept hg h2, r.ne⟩
theorem none_or (v : Value) : v.ownBlock = none ∨ v.ownBlock ≠ none := by cases v.ownBlock <;> simp
theorem Rs.grown {W W' : World} {B q : Nat} {vN vT : Value} {l : List Pr} (r : Rs W B q vN vT l) (hg : W.grownBy W' none) : Rs W' B q vN vT l := r.kept hg (by simp) (none_or _) (none_or _)
/- What stands at a place. -/
theorem row_at {W : World} {B n g cap : Nat} {e : TypeId} {xs : List Value} (h : W.ownsRow B e 1 (.slice (some ⟨g, 0, none⟩) n cap) n xs) {i : Nat} {x : Value} (hx : xs[i]? = some x) : W.cell? ⟨g, i, none⟩ = some x := by
  have hi : i < n := by
    have := (List.getElem?_eq_some_iff.1 hx).1
    rw [h.1] at this
    omega
  rw [h.cellAt i (by omega)]
  exact hx
theorem tests_lt {a n : List UInt8} (h : a < n) : ((bs a).toList == (bs n).toList) = false ∧ Op.bytesLess (bs a).toList (bs n).toList = true := by
  have hne : a ≠ n := fun e => lt_irr n (e ▸ h)
  rw [bs_toList, bs_toList, bytesLess_eq]
  exact ⟨by simpa using hne, by simpa using h⟩
theorem tests_gt {a n : List UInt8} (h : n < a) : ((bs a).toList == (bs n).toList) = false ∧ Op.bytesLess (bs a).toList (bs n).toList = false := by
  have hne : a ≠ n := fun e => lt_irr n (e ▸ h)
  rw [bs_toList, bs_toList, bytesLess_eq]
  exact ⟨by simpa using hne, by simpa using fun h' => lt_irr n (lt_tr h h')⟩
set_option maxHeartbeats 2000000 in
theorem place_at {w : World} {B q : Nat} {vN vT : Value} {l A C : List Pr} {m : Option (List UInt8)} {n : List UInt8} (r : Rs w B q vN vT l) (c : Cut n l A C m) (hl : l.length ≤ 64) :
    Calls Tryd.prog 24 #[.pointer (some ⟨q, 0, none⟩), .string (bs n)] w fun e w' => e = .returned (.tuple #[.int .i64 A.length, .bool m.isSome]) ∧ w' = w := by
  have hc0 := r.c0
  rcases r.nm.2 with ⟨hv, h0⟩ | ⟨g, cap, cur, hv, hb, hg, h1, h2, h3, h4⟩
  · have hl0 : l = [] := List.eq_nil_of_length_eq_zero h0
    rw [hv] at hc0
    have hA : A = [] ∧ m = none := by
      have := c.is
      rw [hl0] at this
      have h5 := List.append_eq_nil_iff.1 this.symm
      have h6 := (List.append_eq_nil_iff.1 h5.2).1
      refine ⟨h5.1, ?_⟩
      cases m with
      | none => rfl
      | some u => simp at h6
    rw [hA.1, hA.2]
    clear c hA hl0 h0 r hv hl
    go_enter Tryd.func24, Tryd.ntmps24
    go_wp2
    go_loop [6] (fun iv => iv = .int .i64 0) (fun iv => 0)
    case atStart => rfl
    case round =>
      subst hrel
      go_wp2
      go_ret2
      exact ⟨rfl, rfl⟩
  · have hrow := r.nm
    rw [hv] at hc0 hrow
    have HR := hide hrow
    have HC := hide c
    have hAl : A.length ≤ l.length := by rw [c.is]; simp
    have HAL := hide hAl
    obtain ⟨N, hN⟩ : ∃ N, l.length = N := ⟨_, rfl⟩
    obtain ⟨k, hk⟩ : ∃ k, A.length = k := ⟨_, rfl⟩
    have hat : ∀ i p, l[i]? = some p → w.cell? ⟨g, i, none⟩ = some (.string (bs p.1)) := fun i p hp => row_at hrow (by simp [hp, nmV])
    have HAT := hide hat
    rw [hN] at hc0 hl hAl
    rw [hk] at hAl ⊢
    have hN64 : (N : Int) ≤ 64 := by omega
    have hkN : (k : Int) ≤ N := by omega
    have HN := hide hN
    have HK := hide hk
    clear r c hrow hv hb hg h1 h2 h3 h4 hat hN hk
    go_enter Tryd.func24, Tryd.ntmps24
    go_wp2
    go_loop [6] (fun iv => ∃ i : Nat, i ≤ k ∧ iv = .int .i64 i) (fun iv => k - (intOf iv).toNat)
    case atStart => exact ⟨0, by omega, rfl⟩
    case round =>
      obtain ⟨i, hi, rfl⟩ := hrel
      by_cases hik : i < k
      · obtain ⟨p, hp⟩ : ∃ p, A[i]? = some p := ⟨_, List.getElem?_eq_getElem (by rw [HK.out]; exact hik)⟩
        have hpl : l[i]? = some p := by rw [HC.out.is, List.getElem?_append_left (by rw [HK.out]; exact hik)]; exact hp
        have hcell := HAT.out i p hpl
        obtain ⟨t1, t2⟩ := tests_lt (HC.out.ahead p (List.mem_of_getElem? hp))
        have hiN : (i : Int) < N := by omega
        clear hp hpl
        go_wp2
        exact ⟨⟨i + 1, by omega, by go_num⟩, by simp [intOf]; omega⟩
      · obtain rfl : i = k := by omega
        cases m with
        | some u =>
          have hpl : l[i]? = some (n, u) := by rw [HC.out.is, List.getElem?_append_right (by rw [HK.out]; omega), HK.out]; simp
          have hiN : (i : Int) < N := by have := (List.getElem?_eq_some_iff.1 hpl).1; rw [HN.out] at this; omega
          have hcell := HAT.out i (n, u) hpl
          clear hpl
          go_wp2
          go_ret2
          exact ⟨rfl, rfl⟩
        | none =>
          cases C with
          | nil =>
            have hiN : (i : Int) = N := by
              have := congrArg List.length HC.out.is
              rw [HN.out] at this
              simp [HK.out] at this
              omega
            obtain rfl : i = N := by omega
            clear hiN
            go_wp2
            go_ret2
            exact ⟨rfl, rfl⟩
          | cons p C =>
            have hpl : l[i]? = some p := by rw [HC.out.is, List.getElem?_append_right (by rw [HK.out]; omega), HK.out]; simp
            have hiN : (i : Int) < N := by have := (List.getElem?_eq_some_iff.1 hpl).1; rw [HN.out] at this; omega
            have hcell := HAT.out i p hpl
            obtain ⟨t1, t2⟩ := tests_gt (HC.out.behind p (by simp))
            clear hpl
            go_wp2
            go_ret2
            exact ⟨rfl, rfl⟩
set_option maxHeartbeats 2000000 in
theorem rget_at {w : World} {B q : Nat} {vN vT : Value} {l A C : List Pr} {m : Option (List UInt8)} {n : List UInt8} (r : Rs w B q vN vT l) (c : Cut n l A C m) (hl : l.length ≤ 64) :
    Calls Tryd.prog 11 #[.pointer (some ⟨q, 0, none⟩), .string (bs n)] w fun e w' => e = .returned (.tuple #[.string (bs (m.getD [])), .bool m.isSome]) ∧ w' = w := by
  have HP := hide (place_at r c hl)
  have b0' : (⟨#[]⟩ : ByteArray) = bs [] := rfl
  cases m with
  | none =>
    clear r c
    go_enter Tryd.func11, Tryd.ntmps11
    go_wp2_with (go_at_call 24; refine HP.out.mono ?_; rintro e w' ⟨rfl, h⟩; replace h := h.symm; subst h)
    go_ret2
    exact ⟨rfl, rfl⟩
  | some u =>
    have hpl : l[A.length]? = some (n, u) := by rw [c.is, List.getElem?_append_right (by omega)]; simp
    have hlt := (List.getElem?_eq_some_iff.1 hpl).1
    rcases r.tx.2 with ⟨hv, h0⟩ | ⟨g, cap, cur, hv, hb, hg, h1, h2, h3, h4⟩
    · exfalso; rw [h0] at hlt; omega
    · have hrow := r.tx
      have hc1 := r.c1
      rw [hv] at hc1 hrow
      have hcell : w.cell? ⟨g, A.length, none⟩ = some (.string (bs u)) := row_at hrow (by simp [hpl, txV])
      obtain ⟨k, hk⟩ : ∃ k, A.length = k := ⟨_, rfl⟩
      obtain ⟨N, hN⟩ : ∃ N, l.length = N := ⟨_, rfl⟩
      rw [hk] at HP hcell hlt
      rw [hN] at hc1 hlt hl
      have hkN : (k : Int) < N := by omega
      have hN64 : (N : Int) ≤ 64 := by omega
      clear r c hpl hrow hv hb hg h1 h2 h3 h4 hk hN
      go_enter Tryd.func11, Tryd.ntmps11
      go_wp2_with (go_at_call 24; refine HP.out.mono ?_; rintro e w' ⟨rfl, h⟩; replace h := h.symm; subst h)
      go_ret2
      exact ⟨rfl, rfl⟩
end Go.Proofs.YtaekljpijnkjoaaDoor.St
