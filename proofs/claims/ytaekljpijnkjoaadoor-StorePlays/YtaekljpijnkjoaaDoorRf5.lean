/-
  The document's own Put.
-/
import Derived.Test.YtaekljpijnkjoaaDoorRf4
namespace Go.Proofs.YtaekljpijnkjoaaDoor.St
open Go.RowKit Go.Maps Go.Proofs.YtaekljpijnkjoaaDoor.Tx
set_option linter.unusedVariables false
set_option linter.unusedSimpArgs false
set_option maxRecDepth 100000

set_option maxHeartbeats 1000000 in
theorem rput_bad (w : World) (q : Nat) (n t : List UInt8) (hm : n.length ≤ maxLen) (hn : nmB n = false) : Calls Tryd.prog 9 #[.pointer (some ⟨q, 0, none⟩), .string (bs n), .string (bs t)] w fun e w' => e = .returned (.int .i64 70) ∧ w' = w := by
  have HM := hide hm
  clear hm
  go_enter Tryd.func9, Tryd.ntmps9
  go_wp2_with (go_at_call 21; refine (rname_any n _ HM.out).mono ?_; rw [hn]; rintro e w' ⟨rfl, h⟩; replace h := h.symm; subst h)
  go_ret
  exact ⟨rfl, rfl⟩
set_option maxHeartbeats 1000000 in
theorem rput_long (w : World) (q : Nat) (n t : List UInt8) (hm : n.length ≤ maxLen) (ht : t.length ≤ maxLen) (hn : nmB n = true) (hl : 131072 < t.length) : Calls Tryd.prog 9 #[.pointer (some ⟨q, 0, none⟩), .string (bs n), .string (bs t)] w fun e w' => e = .returned (.int .i64 2) ∧ w' = w := by
  have HM := hide hm
  have hz := bs_size t
  obtain ⟨N, hN⟩ : ∃ N, t.length = N := ⟨_, rfl⟩
  rw [hN] at hz ht hl
  have hl1 : (131072 : Int) < N := by omega
  have hl2 : (N : Int) ≤ 9223372036854775807 := by unfold maxLen at ht; omega
  clear hm ht hl hN
  go_enter Tryd.func9, Tryd.ntmps9
  go_wp2_with (go_at_call 21; refine (rname_any n _ HM.out).mono ?_; rw [hn]; rintro e w' ⟨rfl, h⟩; replace h := h.symm; subst h)
  go_ret
  exact ⟨rfl, rfl⟩
/- A row's cell is put. -/
theorem row_set {w : World} {B n g cap : Nat} {e : TypeId} {xs : List Value} (h : w.ownsRow B e 1 (.slice (some ⟨g, 0, none⟩) n cap) n xs) (k : Nat) (x : Value) : (w.setCell ⟨g, k, none⟩ x).ownsRow B e 1 (.slice (some ⟨g, 0, none⟩) n cap) n (xs.set k x) := by
  rcases h.2 with ⟨hv, _⟩ | ⟨g', cap', cur, hv, hb, hg, h1, h2, h3, h4⟩
  · cases hv
  · cases hv
    have hlt := (Array.getElem?_eq_some_iff.1 hg).1
    have h' : w.heap[g] = .cells cur e (0, 0) := by simpa [Array.getElem?_eq_getElem hlt] using hg
    refine ⟨by simpa using h.1, .inr ⟨g, cap, cur.setIfInBounds k x, rfl, hb, ?_, h1, h2, by simpa using h3, ?_⟩⟩
    · show (w.heap.modify g _)[g]? = _
      rw [Array.getElem?_eq_getElem (by simpa using hlt), Array.getElem_modify_self, h']
      rfl
    · rw [Array.toList_setIfInBounds, List.take_set, h4]
set_option maxHeartbeats 2000000 in
theorem rput_found {w : World} {B q : Nat} {vN vT : Value} {l A C : List Pr} {n u : List UInt8} (r : Rs w B q vN vT l) (c : Cut n l A C (some u)) (hl : l.length ≤ 64) (hm : n.length ≤ maxLen) (hn : nmB n = true) (t : List UInt8) (ht : t.length ≤ 131072) :
    Calls Tryd.prog 9 #[.pointer (some ⟨q, 0, none⟩), .string (bs n), .string (bs t)] w fun e w' => e = .returned (.int .i64 0) ∧ Rs w' B q vN vT (A ++ (n, t) :: C) ∧ w.grownBy w' vT.ownBlock := by
  have HP := hide (place_at r c hl)
  have HM := hide hm
  have hpl : l[A.length]? = some (n, u) := by rw [c.is, List.getElem?_append_right (by omega)]; simp
  have hlt := (List.getElem?_eq_some_iff.1 hpl).1
  rcases r.tx.2 with ⟨hv, h0⟩ | ⟨g, cap, cur, hv, hb, hg, h1, h2, h3, h4⟩
  · exfalso; rw [h0] at hlt; omega
  · have hrow := r.tx
    have hc1 := r.c1
    rw [hv] at hc1 hrow
    have hcell : w.cell? ⟨g, A.length, none⟩ = some (.string (bs u)) := row_at hrow (by simp [hpl, txV])
    have hfree : w.frozen? ⟨g, A.length, none⟩ = false := by simp [World.frozen?, hg]
    have HS := hide (show Rs (w.setCell ⟨g, A.length, none⟩ (.string (bs t))) B q vN vT (A ++ (n, t) :: C) by
      have gg := setCell_g w g A.length (.string (bs t))
      have hgb : vT.ownBlock = some g := by rw [hv]; rfl
      have hll : (A ++ (n, t) :: C).length = l.length := by rw [c.is]; simp
      refine ⟨(gg.block q r.lt (fun e => r.off1 (by rw [hgb, ← Option.some.inj e]))).trans r.head, ?_, ?_, r.ne⟩
      · rw [hll, show (A ++ (n, t) :: C).map nmV = l.map nmV by rw [c.is]; simp [nmV]]
        refine r.nm.kept gg ?_
        rw [← hgb]
        exact r.ne
      · rw [hll, hv, show (A ++ (n, t) :: C).map txV = (l.map txV).set A.length (.string (bs t)) by rw [c.is]; simp [txV]]
        exact row_set hrow _ _)
    have HG := hide (show w.grownBy (w.setCell ⟨g, A.length, none⟩ (.string (bs t))) vT.ownBlock by rw [hv]; exact setCell_g _ _ _ _)
    obtain ⟨k, hk⟩ : ∃ k, A.length = k := ⟨_, rfl⟩
    obtain ⟨N, hN⟩ : ∃ N, l.length = N := ⟨_, rfl⟩
    rw [hk] at HP hcell hlt hfree HS HG
    rw [hN] at hc1 hlt hl
    have hkN : (k : Int) < N := by omega
    have hN64 : (N : Int) ≤ 64 := by omega
    have hz := bs_size t
    have htl : (t.length : Int) ≤ 131072 := by omega
    clear r c hpl hrow hv hb hg h1 h2 h3 h4 hk hN hm ht
    go_enter Tryd.func9, Tryd.ntmps9
    go_wp2_with (first | (go_at_call 21; refine (rname_any n _ HM.out).mono ?_; rw [hn]; rintro e w' ⟨rfl, h⟩; replace h := h.symm; subst h) | (go_at_call 24; refine HP.out.mono ?_; rintro e w' ⟨rfl, h⟩; replace h := h.symm; subst h))
    go_ret
    exact ⟨rfl, HS.out, HG.out⟩
set_option maxHeartbeats 2000000 in
theorem rput_full {w : World} {B q : Nat} {vN vT : Value} {l A C : List Pr} {n : List UInt8} (r : Rs w B q vN vT l) (c : Cut n l A C none) (hl : l.length = 64) (hm : n.length ≤ maxLen) (hn : nmB n = true) (t : List UInt8) (ht : t.length ≤ 131072) :
    Calls Tryd.prog 9 #[.pointer (some ⟨q, 0, none⟩), .string (bs n), .string (bs t)] w fun e w' => e = .returned (.int .i64 3) ∧ w' = w := by
  have HP := hide (place_at r c (by omega))
  have HM := hide hm
  obtain ⟨sa, sc, hv⟩ := own_len r.nm
  have hc0 := r.c0
  rw [hv, hl] at hc0
  have hz := bs_size t
  have htl : (t.length : Int) ≤ 131072 := by omega
  clear r c hm ht hv
  go_enter Tryd.func9, Tryd.ntmps9
  go_wp2_with (first | (go_at_call 21; refine (rname_any n _ HM.out).mono ?_; rw [hn]; rintro e w' ⟨rfl, h⟩; replace h := h.symm; subst h) | (go_at_call 24; refine HP.out.mono ?_; rintro e w' ⟨rfl, h⟩; replace h := h.symm; subst h))
  go_ret
  exact ⟨rfl, rfl⟩
end Go.Proofs.YtaekljpijnkjoaaDoor.St
